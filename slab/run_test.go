package slab

import (
	"fmt"
	"math/rand"
	"slices"
	"testing"

	"cellaret/api"
)

// pair is a slab and the lists that it is held against.
type pair struct {
	s *Slab
	w *plain
}

func newPair(t *testing.T, pages int) pair {
	t.Helper()
	return pair{made(t, pages), newPlain(pages)}
}

// take takes from both.
func (p pair) take(t *testing.T, class int) (int, api.Errno) {
	t.Helper()
	c, e := p.s.Take(class)
	if want, we := p.w.take(class); c != want || e != we {
		t.Fatalf("P11.1: Take(%d): %d, %d, want %d, %d; owners %v, taken %v", class, c, e, want, we, p.w.owner, p.w.taken)
	}
	return c, e
}

// free frees of both.
func (p pair) free(t *testing.T, chunk int) {
	t.Helper()
	if k, want := p.s.Of(chunk), p.w.of(chunk); k != want {
		t.Fatalf("P11.2: Of(%d): %d, want %d", chunk, k, want)
	}
	e := p.s.Free(chunk)
	if want := p.w.free(chunk); e != want {
		t.Fatalf("P11.1: Free(%d): %d, want %d; owners %v, taken %v", chunk, e, want, p.w.owner, p.w.taken)
	}
}

// same holds the counts of both against each other.
func (p pair) same(t *testing.T) {
	t.Helper()
	if got, want := seen(p.s), p.w.said(); got != want {
		t.Fatalf("P11.2: %s, want %s; owners %v, taken %v", got, want, p.w.owner, p.w.taken)
	}
}

// sameOf holds Of of all numbers of both against each other.
func (p pair) sameOf(t *testing.T) {
	t.Helper()
	if got, want := classesOf(p.s, len(p.w.owner)), p.w.classesOf(); !slices.Equal(got, want) {
		t.Fatalf("P11.2: Of: %v, want %v", got, want)
	}
}

// step is one Take or Free, picked so that slabs fill, empty, and change their pages' classes.
func (p pair) step(t *testing.T, r *rand.Rand, takes int) {
	t.Helper()
	switch k := r.Intn(100); {
	case k < 3:
		p.take(t, r.Intn(20)-10)
	case k < 10:
		p.free(t, r.Intn(64*len(p.w.owner)+128)-64)
	case k < 10+takes:
		p.take(t, r.Intn(6))
	case k < 97 && len(p.w.taken) > 0:
		p.free(t, p.w.taken[r.Intn(len(p.w.taken))])
	case len(p.w.taken) > 0:
		// A whole page at once, so that others may have it.
		for _, c := range p.w.onPage(p.w.taken[r.Intn(len(p.w.taken))] / 64) {
			p.free(t, c)
		}
	}
}

func TestLongRuns(t *testing.T) {
	for _, pages := range []int{1, 2, 3, 4, 5, 8, 13, 20} {
		r := rand.New(rand.NewSource(int64(pages)))
		for round := range 12 {
			p := newPair(t, pages)
			takes := 30
			for i := range 700 {
				if i%100 == 0 {
					takes = []int{20, 40, 45, 50, 80}[(round+r.Intn(5))%5]
				}
				p.step(t, r, takes)
				p.same(t)
				if i%20 == 0 {
					p.sameOf(t)
				}
			}
			p.sameOf(t)
		}
	}
}

func TestLongRunOverAllPages(t *testing.T) {
	p := newPair(t, 1024)
	r := rand.New(rand.NewSource(1024))
	for i := range 1500 {
		p.take(t, []int{5, 5, 5, 5, 4, 4, 3, 2, 1, 0}[r.Intn(10)])
		if i%3 == 0 {
			p.free(t, p.w.taken[r.Intn(len(p.w.taken))])
		}
	}
	p.same(t)
	p.sameOf(t)
}

// A move is a Take of a class, if it is below 6; else the Free of one of the chunks that are taken.
type move int

// follow does moves on a new pair.
func follow(t *testing.T, pages int, moves []move) pair {
	t.Helper()
	p := newPair(t, pages)
	for _, m := range moves {
		if m < 6 {
			p.take(t, int(m))
		} else {
			p.free(t, p.w.taken[m-6])
		}
	}
	return p
}

// each goes over all runs of so many moves, each on a slab of its own.
func each(t *testing.T, pages, depth int, moves []move, look func(pair)) {
	t.Helper()
	p := follow(t, pages, moves)
	look(p)
	if depth == 0 {
		return
	}
	for m := range move(6 + len(p.w.taken)) {
		each(t, pages, depth-1, append(slices.Clone(moves), m), look)
	}
}

func TestAllShortRuns(t *testing.T) {
	for pages := 1; pages <= 3; pages++ {
		each(t, pages, 5, nil, func(p pair) { p.same(t) })
	}
}

// goesWell takes chunks as long as fewer are taken than there are pages, each of a class that is picked.
func goesWell(t *testing.T, p pair, pick func() int) {
	t.Helper()
	for len(p.w.taken) < len(p.w.owner) {
		class := pick()
		if _, e := p.take(t, class); e != api.OK {
			t.Fatalf("P11.3: Take(%d) with %d taken of %d pages: %d", class, len(p.w.taken), len(p.w.owner), e)
		}
	}
}

func TestTakeGoesWellAtEachNumberOfPages(t *testing.T) {
	for pages := 1; pages <= 40; pages++ {
		for class := range 6 {
			p := newPair(t, pages)
			goesWell(t, p, func() int { return class })
		}
		r := rand.New(rand.NewSource(int64(pages)))
		p := newPair(t, pages)
		for round := range 25 {
			goesWell(t, p, func() int { return r.Intn(6) })
			p.same(t)
			// More than the pages are taken, as far as they fit, and then so many are freed that fewer are.
			for range r.Intn(3 * pages) {
				p.take(t, r.Intn(6))
			}
			keep := r.Intn(pages)
			if round%4 == 0 {
				keep = pages - 1
			}
			for len(p.w.taken) > keep {
				p.free(t, p.w.taken[r.Intn(len(p.w.taken))])
			}
		}
	}
}

func TestTakeGoesWellOnAnyPagesBesideAFreeOne(t *testing.T) {
	// Each page but one has one chunk that is taken: the one that is free is of each class, at each place.
	for pages := 1; pages <= 7; pages++ {
		for at := range pages {
			for owner := range 6 {
				for class := range 6 {
					p := newPair(t, pages)
					for i := range pages {
						k := (i + 1 + owner) % 6
						if i == at {
							k = owner
						}
						for range pageChunks[k] {
							p.take(t, k)
						}
					}
					for i := range pages {
						l := p.w.onPage(i)
						if i != at {
							l = l[:len(l)-1]
						}
						for _, c := range l {
							p.free(t, c)
						}
					}
					goesWell(t, p, func() int { return class })
					p.same(t)
				}
			}
		}
	}
}

func TestTakeGoesWellOnAllPages(t *testing.T) {
	s := made(t, 1024)
	for round := range 3 {
		var l []int
		for i := range 1024 {
			c, e := s.Take((i*7 + round*5 + i/6) % 6)
			if e != api.OK {
				t.Fatalf("P11.3: with %d taken of 1024 pages: %d", i, e)
			}
			l = append(l, c)
		}
		slices.Sort(l)
		if n := len(slices.Compact(slices.Clone(l))); n != 1024 {
			t.Fatalf("P11.1: of 1024 chunks %d are told twice", 1024-n)
		}
		frees(t, s, l...)
		if got := fmt.Sprint(s.Used(0), s.Used(1), s.Used(2), s.Used(3), s.Used(4), s.Used(5)); got != "0 0 0 0 0 0" {
			t.Fatalf("P11.2: Used of none that is taken: %s", got)
		}
	}
}
