package slab

import (
	"math/rand"
	"slices"
	"testing"
)

// copy makes another pair, the same.
func (p pair) copy() pair {
	return pair{p.s.Copy(), &plain{owner: slices.Clone(p.w.owner), taken: slices.Clone(p.w.taken)}}
}

// A copy is the same, and has nothing in common with what it was made of: whichever goes on.
func TestCopy(t *testing.T) {
	for _, pages := range []int{1, 2, 3, 7} {
		r := rand.New(rand.NewSource(int64(pages)))
		for round := range 30 {
			p := newPair(t, pages)
			p.copy().same(t)
			for range 20 * round {
				p.step(t, r, 45)
			}
			q := p.copy()
			q.same(t)
			q.sameOf(t)
			for _, x := range []pair{q, p, q} {
				for range 40 {
					x.step(t, r, 30+round)
				}
				for _, y := range []pair{p, q} {
					y.same(t)
					y.sameOf(t)
				}
			}
		}
	}
}
