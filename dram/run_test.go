package dram

import (
	"fmt"
	"math/rand"
	"slices"
	"testing"

	"cellaret/api"
)

// all goes over all runs of so many of the moves, each on a pair of its own.
func all(moves, long int, each func(run []int)) {
	run := make([]int, long)
	for {
		each(run)
		at := 0
		for at < long && run[at] == moves-1 {
			run[at] = 0
			at++
		}
		if at == long {
			return
		}
		run[at]++
	}
}

// shortMove does one of sixteen calls on three keys.
func (p pair) shortMove(m, at int) {
	p.t.Helper()
	key := []string{"a", "b", "c"}[m%3]
	switch {
	case m < 9:
		x := ofClass(key, []int{5, 4, 0}[m/3], uint64(at+10))
		if m%3 == 1 {
			x.Exp = 5
		}
		p.put(x, at%2 == 0)
	case m < 12:
		p.get(key, int64(4+at%2))
	case m < 15:
		p.delete(key)
	default:
		p.clear()
	}
	p.same()
}

func TestAllShortRuns(t *testing.T) {
	for pages := 1; pages <= 2; pages++ {
		all(16, 4, func(run []int) {
			p := newPair(t, pages)
			for at, m := range run {
				p.shortMove(m, at)
			}
		})
	}
}

func TestAllShortRunsOnFullPages(t *testing.T) {
	for _, classes := range [][]int{{5, 5}, {4, 4, 4, 4}, {5, 5, 4, 4, 4, 4}} {
		all(16, 3, func(run []int) {
			p := newPair(t, (len(classes)+2)/4)
			for i, class := range classes {
				p.put(ofClass(string(rune('a'+i)), class, uint64(i+1)), i%2 == 0)
			}
			for at, m := range run {
				p.shortMove(m, at)
			}
			p.probe()
		})
	}
}

// weights say how many of a hundred calls are which, and how often which class comes; the rest is Peek.
type weights struct {
	put, get, delete int
	classes          []int
}

var moods = []weights{
	{50, 40, 5, []int{0, 1, 2, 3, 4, 5}},
	{80, 15, 3, []int{0, 0, 0, 0, 1, 1, 5}},
	{70, 25, 3, []int{3, 4, 5}},
	{60, 38, 1, []int{4}},
	{30, 20, 45, []int{0, 1, 2, 3, 4, 5}},
	{60, 35, 2, []int{2, 3}},
	{90, 10, 0, []int{0, 5}},
	{40, 55, 2, []int{1, 2, 4}},
}

// anyItem has an item of a class, of any size that it has, with a time that is near.
func anyItem(r *rand.Rand, key string, class int) api.Item {
	least, most := 32+len(key), chunkBytes[class]
	if class > 0 {
		least = chunkBytes[class-1] + 1
	}
	most = min(most, 32+len(key)+1024)
	x := sized(key, least+r.Intn(most-least+1), 1+uint64(r.Intn(1000)))
	switch r.Intn(4) {
	case 0:
		x.Exp = int64(r.Intn(12) - 4)
	case 1:
		x.Exp = 1000
	}
	x.Flags = r.Uint32()
	return x
}

func (p pair) step(r *rand.Rand, key string, w weights) {
	p.t.Helper()
	switch k := r.Intn(100); {
	case r.Intn(400) == 0:
		p.clear()
	case r.Intn(60) == 0:
		l := noGood(key)
		p.put(l[r.Intn(len(l))], k%2 == 0)
	case k < w.put:
		p.put(anyItem(r, key, w.classes[r.Intn(len(w.classes))]), r.Intn(2) == 0)
	case k < w.put+w.get:
		p.get(key, int64(r.Intn(12)-5))
	case k < w.put+w.get+w.delete:
		p.delete(key)
	default:
		p.peek(key)
	}
}

func TestLongRuns(t *testing.T) {
	for round := range 40 {
		t.Run(fmt.Sprint(round), func(t *testing.T) {
			t.Parallel()
			r := rand.New(rand.NewSource(int64(round)))
			p := newPair(t, 1+round%5)
			mood, many := moods[0], 6+round*3
			for i := range 1200 {
				if i%60 == 0 {
					mood = moods[r.Intn(len(moods))]
				}
				p.step(r, fmt.Sprint("k", r.Intn(many)), mood)
				p.same()
			}
			p.probe()
		})
	}
}

// Keys of all bytes and lengths.
func TestLongRunOfAnyKeys(t *testing.T) {
	r := rand.New(rand.NewSource(8))
	p := newPair(t, 3)
	keys := make([]string, 50)
	for i := range 2500 {
		at := r.Intn(len(keys))
		if keys[at] == "" || r.Intn(20) == 0 {
			b := make([]byte, 1+r.Intn(250))
			r.Read(b)
			keys[at] = string(b)
		}
		if r.Intn(3) > 0 {
			x := sized(keys[at], 32+len(keys[at])+r.Intn(1025), 1+r.Uint64()/2)
			p.put(x, i%2 == 0)
		} else {
			p.step(r, keys[at], weights{0, 70, 20, nil})
		}
		p.same()
	}
}

// P14.3: with at most as many keys as pages none is let go, whatever came before.
func TestNoneIsLetGoWithAKeyAPage(t *testing.T) {
	for pages := 1; pages <= 12; pages++ {
		r := rand.New(rand.NewSource(int64(pages)))
		c := made(t, pages)
		for round := range 12 {
			for i := range 150 {
				key := fmt.Sprint("k", r.Intn(pages))
				x := anyItem(r, key, r.Intn(6))
				x.Exp = 0
				if l, e := c.Put(x, i%2 == 0); len(l) > 0 || e != api.OK {
					t.Fatalf("P14.3: %d pages, %d keys: %q is let go, %d", pages, c.Len(), text(l), e)
				}
				if y, ok := c.Get(key, 5); y != x || !ok {
					t.Fatalf("P14.2: Get(%q): %+v, %v", key, y, ok)
				}
				if r.Intn(5) == 0 {
					c.Delete(fmt.Sprint("k", r.Intn(pages)))
				}
			}
			overfill(c, r, pages)
			if round%3 == 0 {
				c.Clear()
			}
		}
	}
}

// overfill puts many more keys than pages, and takes all of them away but some of the first keys.
func overfill(c *Cache, r *rand.Rand, pages int) {
	for i := range 40 * pages {
		c.Put(anyItem(r, fmt.Sprint("more", i), r.Intn(6)), false)
	}
	for i := range 40 * pages {
		c.Delete(fmt.Sprint("more", i))
	}
}

// P14.3: of all classes at once, on the most pages that there may be.
func TestNoneIsLetGoOnAllPages(t *testing.T) {
	c := made(t, 1024)
	for round := range 4 {
		for i := range 1024 {
			x := ofClass(fmt.Sprint("k", i), (7*i+5*round+i/6)%6, uint64(round+1))
			if l, e := c.Put(x, false); len(l) > 0 || e != api.OK {
				t.Fatalf("P14.3: round %d, %d keys: %q is let go, %d", round, c.Len(), text(l), e)
			}
		}
		if c.Len() != 1024 {
			t.Fatalf("P14.2: Len: %d", c.Len())
		}
	}
	// One key more, on pages of which each has one: its class has some, and lets one of them go, or has room.
	if _, e := c.Put(ofClass("more", 2, 9), false); e != api.OK {
		t.Fatalf("P14.1: Put of one more: %d", e)
	}
}

// R5: what is told hangs on what was told alone.
func TestSameRunSameAnswers(t *testing.T) {
	run := func() []Out {
		r := rand.New(rand.NewSource(4))
		p := newPair(t, 3)
		for i := range 900 {
			p.step(r, fmt.Sprint("k", r.Intn(90)), moods[i/90%len(moods)])
		}
		return p.c.Items()
	}
	want := run()
	for range 3 {
		if got := run(); !slices.Equal(got, want) {
			t.Fatalf("R5: %q, want %q", text(got), text(want))
		}
	}
}
