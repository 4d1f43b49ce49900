package table

import (
	"fmt"
	"math/rand"
	"slices"
	"testing"
)

// pair is a table and the plain map that it is held against.
type pair struct {
	x *Table
	w *plain
}

func newPair(t *testing.T, buckets int) pair {
	t.Helper()
	return pair{made(t, buckets), newPlain(buckets)}
}

// set sets in both.
func (p pair) set(t *testing.T, key string, v int) {
	t.Helper()
	got := p.x.Set(key, v)
	if want := p.w.set(key, v); got != want {
		t.Fatalf("P12.1: Set(%q, %d): %v, want %v", key, v, got, want)
	}
	p.same(t)
}

// drop deletes from both.
func (p pair) drop(t *testing.T, key string) {
	t.Helper()
	got := p.x.Delete(key)
	if want := p.w.drop(key); got != want {
		t.Fatalf("P12.1: Delete(%q): %v, want %v", key, got, want)
	}
	p.same(t)
}

// get asks both.
func (p pair) get(t *testing.T, key string) {
	t.Helper()
	v, ok := p.x.Get(key)
	if at, there := p.w.keys[key]; v != at.v || ok != there {
		t.Fatalf("P12.3: Get(%q): %d, %v, want %d, %v", key, v, ok, at.v, there)
	}
}

// same holds the counts of both against each other.
func (p pair) same(t *testing.T) {
	t.Helper()
	if got, want := counts(p.x), p.w.counts(); got != want {
		t.Fatalf("P12.2: %s, want %s", got, want)
	}
}

// sameAll holds all keys, their numbers and all chains of both against each other.
func (p pair) sameAll(t *testing.T) {
	t.Helper()
	if got, want := p.x.Keys(), p.w.sorted(); !slices.Equal(got, want) {
		t.Fatalf("P12.3: Keys: %q, want %q", got, want)
	}
	for key := range p.w.keys {
		p.get(t, key)
	}
	for i, want := range p.w.chains() {
		if got := p.x.Chain(i); !slices.Equal(got, want) {
			t.Fatalf("P12.2: Chain(%d): %q, want %q (%s)", i, got, want, p.w.counts())
		}
	}
}

// step is one call; the more sets, the more keys there are at last.
func (p pair) step(t *testing.T, r *rand.Rand, key string, sets int) {
	t.Helper()
	switch k := r.Intn(100); {
	case k < sets:
		p.set(t, key, r.Int()-r.Int())
	case k < 90:
		p.drop(t, key)
	default:
		p.get(t, key)
	}
}

// oddKey has bytes of any kind, and few of them.
func oddKey(r *rand.Rand, many int) string {
	n := r.Intn(many)
	var b []byte
	for n > 0 {
		b = append(b, []byte{0, 255, 'a', 195, 169}[n%5])
		n /= 5
	}
	return string(b)
}

// All runs of so many Sets and Deletes on few keys, looked at behind each step.
func TestAllShortRuns(t *testing.T) {
	keys := []string{"", "a", "b", "c"}
	const long = 5
	for _, buckets := range []int{1, 2} {
		for run := range 8 * 8 * 8 * 8 * 8 {
			p := newPair(t, buckets)
			for i := range long {
				pick := run >> (3 * i) & 7
				if key := keys[pick&3]; pick < 4 {
					p.set(t, key, i+1)
				} else {
					p.drop(t, key)
				}
				for _, key := range keys {
					p.get(t, key)
				}
			}
			p.sameAll(t)
		}
	}
}

func TestLongRuns(t *testing.T) {
	for _, buckets := range []int{1, 2, 4, 8, 16, 64} {
		for round := range 6 {
			r := rand.New(rand.NewSource(int64(10*buckets + round)))
			p := newPair(t, buckets)
			sets := 60
			for i := range 1500 {
				if i%150 == 0 {
					sets = []int{20, 50, 70, 88}[r.Intn(4)]
				}
				p.step(t, r, oddKey(r, 20+i/2), sets)
				if i%7 == 0 || p.w.left > 0 && i%3 == 0 {
					p.sameAll(t)
				}
			}
			p.sameAll(t)
		}
	}
}

// All is looked at behind each step of each growth from one bucket to 256, whatever the change is.
func TestEachStepOfEachGrowth(t *testing.T) {
	for kind := range 4 {
		p := newPair(t, 1)
		r := rand.New(rand.NewSource(int64(kind)))
		added := 0
		for p.w.buckets < 256 {
			key := fmt.Sprint("k", added)
			some := fmt.Sprint("k", r.Intn(added+1))
			switch {
			case p.w.left == 0 || kind == 0:
				p.set(t, key, added)
				added++
			case kind == 1:
				p.set(t, some, -added)
			case kind == 2:
				p.drop(t, some)
			default:
				p.drop(t, "nobody")
			}
			p.sameAll(t)
		}
	}
}

func TestLongRunFromTheMost(t *testing.T) {
	p := newPair(t, 1024)
	r := rand.New(rand.NewSource(1024))
	for i := range 12000 {
		p.step(t, r, fmt.Sprint("k", r.Intn(9000)), 75)
		if i%1000 == 0 {
			p.sameAll(t)
		}
	}
	p.sameAll(t)
	if p.w.buckets < 4096 {
		t.Fatalf("the run is too short: %s", p.w.counts())
	}
}

// bound is a table of so many keys, k0, k1, .., each with its number.
func bound(t *testing.T, keys int) *Table {
	t.Helper()
	x := made(t, 1024)
	buckets, left := 1024, 0
	for i := range keys {
		if !x.Set(fmt.Sprint("k", i), i) {
			t.Fatalf("P12.1: Set(k%d): false", i)
		}
		left = max(0, left-1)
		if 2*(i+1) > 3*buckets && left == 0 && buckets < 65536 {
			left = buckets
			buckets *= 2
		}
		if x.Len() != i+1 || x.Buckets() != buckets || x.Left() != left {
			t.Fatalf("P12.2: %s, want %d in %d, left %d", counts(x), i+1, buckets, left)
		}
	}
	return x
}

func TestGrowsNoMoreAtTheBound(t *testing.T) {
	const keys = 150000
	x := bound(t, 98304)
	tells(t, x, 98304, 65536, 0)
	for i := 98304; i < keys; i++ {
		x.Set(fmt.Sprint("k", i), i)
		if x.Len() != i+1 || x.Buckets() != 65536 || x.Left() != 0 {
			t.Fatalf("P12.2: %s, want %d in 65536, left 0", counts(x), i+1)
		}
	}
	for i := range keys {
		has(t, x, fmt.Sprint("k", i), i)
	}
	if l := x.Keys(); len(l) != keys || !slices.IsSorted(l) {
		t.Fatalf("P12.1: of %d keys %d are told", keys, len(l))
	}
	told := 0
	for i := range 65536 {
		for _, key := range x.Chain(i) {
			told++
			if home(key, 65536) != i {
				t.Fatalf("P12.2: Chain(%d) has %q", i, key)
			}
		}
	}
	if told != keys || len(x.Chain(65536)) != 0 {
		t.Fatalf("P12.2: of %d keys %d stand in chains", keys, told)
	}
	for i := range keys {
		if !x.Delete(fmt.Sprint("k", i)) {
			t.Fatalf("P12.1: Delete(k%d): false", i)
		}
	}
	tells(t, x, 0, 65536, 0)
}

// Half of the old buckets of the last growth are left: the map is whole all the same.
func TestLastGrowthHalfway(t *testing.T) {
	const first = 49153
	x := bound(t, first)
	tells(t, x, first, 65536, 32768)
	for i := range 32768 / 2 {
		x.Set("k0", i)
	}
	tells(t, x, first, 65536, 16384)
	for i := 1; i < first; i++ {
		has(t, x, fmt.Sprint("k", i), i)
	}
	for i := range 65536 {
		for _, key := range x.Chain(i) {
			if home(key, 65536) != i || i%32768 >= 16384 {
				t.Fatalf("P12.2: Chain(%d) has %q", i, key)
			}
		}
	}
	if l := x.Keys(); len(l) != first {
		t.Fatalf("P12.1: of %d keys %d are told", first, len(l))
	}
}

// R5: what a table tells hangs on what it was told alone.
func TestSameRunSameAnswers(t *testing.T) {
	run := func() string {
		x := made(t, 2)
		r := rand.New(rand.NewSource(5))
		for i := range 600 {
			x.Set(oddKey(r, 300), i)
			if i%3 == 0 {
				x.Delete(oddKey(r, 300))
			}
		}
		return state(x)
	}
	want := run()
	for range 3 {
		if got := run(); got != want {
			t.Fatalf("R5: %s, want %s", got, want)
		}
	}
}
