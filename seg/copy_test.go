package seg

import (
	"math/rand"
	"testing"
)

// copy makes another pair, the same.
func (p pair) copy() pair {
	w := newPlain()
	w.hot, w.warm, w.cold = append(w.hot, p.w.hot...), append(w.warm, p.w.warm...), append(w.cold, p.w.cold...)
	for id := range p.w.used {
		w.used[id] = true
	}
	return pair{p.s.Copy(), w}
}

// A copy is the same, its uses too, and has nothing in common with what it was made of: whichever goes on.
func TestCopy(t *testing.T) {
	newPair().copy().same(t)
	for round := range 60 {
		r := rand.New(rand.NewSource(int64(round)))
		p := newPair()
		for i := range 40 + 5*round {
			p.step(t, r, r.Intn(9+round), moods[i/30%len(moods)])
		}
		first, second := p.copy(), p.copy()
		first.same(t)
		for i := range 60 {
			first.step(t, r, r.Intn(9+round), moods[i/10%len(moods)])
			first.same(t)
		}
		first.probe(t)
		p.same(t)
		p.copy().probe(t)
		p.probe(t)
		second.same(t)
		second.probe(t)
	}
}
