package seg

import (
	"math"
	"math/rand"
	"testing"
)

// All runs of five calls on three numbers, from none on.
func TestAllShortRuns(t *testing.T) {
	ids := []int{0, -7, math.MaxInt}
	const long = 5
	for run := range 100000 {
		p := newPair()
		for range long {
			pick := run % 10
			run /= 10
			switch {
			case pick < 3:
				p.add(t, ids[pick])
			case pick < 6:
				p.touch(t, ids[pick-3])
			case pick < 9:
				p.remove(t, ids[pick-6])
			default:
				p.evict(t)
			}
			p.same(t)
		}
	}
}

// All runs of four calls on six numbers that stand in all three lists, and what their uses lead to.
func TestAllShortRunsOnThreeLists(t *testing.T) {
	for run := range 14 * 14 * 14 * 14 {
		p := newPair()
		for id := range 6 {
			p.add(t, id)
			if id%2 == 0 {
				p.touch(t, id)
			}
		}
		for next := range 4 {
			pick := run % 14
			run /= 14
			switch {
			case pick < 6:
				p.touch(t, pick)
			case pick < 12:
				p.remove(t, pick-6)
			case pick == 12:
				p.add(t, 100+next)
			default:
				p.evict(t)
			}
			p.same(t)
		}
		p.probe(t)
	}
}

// weights say how many of a hundred calls are which; the rest is Evict.
type weights struct{ add, touch, remove int }

func (p pair) step(t *testing.T, r *rand.Rand, id int, w weights) {
	t.Helper()
	switch k := r.Intn(100); {
	case k < w.add:
		p.add(t, id)
	case k < w.add+w.touch:
		p.touch(t, id)
	case k < w.add+w.touch+w.remove:
		p.remove(t, id)
	default:
		p.evict(t)
	}
}

var moods = []weights{{40, 40, 10}, {80, 10, 5}, {20, 70, 5}, {15, 15, 60}, {15, 35, 0}, {50, 0, 25}, {60, 40, 0}}

func TestLongRuns(t *testing.T) {
	for round := range 30 {
		r := rand.New(rand.NewSource(int64(round)))
		p := newPair()
		mood, many := moods[0], 5+4*round
		for i := range 2000 {
			if i%60 == 0 {
				mood = moods[r.Intn(len(moods))]
			}
			p.step(t, r, r.Intn(many)-many/3, mood)
			p.same(t)
		}
		p.probe(t)
	}
}

// Any numbers, most of which come once.
func TestLongRunsOfAnyNumbers(t *testing.T) {
	r := rand.New(rand.NewSource(77))
	p := newPair()
	recent := make([]int, 64)
	for i := range 3000 {
		id := int(r.Uint64())
		if i%3 > 0 {
			id = recent[r.Intn(len(recent))]
		}
		recent[i%len(recent)] = id
		p.step(t, r, id, moods[i/100%len(moods)])
		p.same(t)
	}
	p.probe(t)
}

func TestLongRunOfMany(t *testing.T) {
	r := rand.New(rand.NewSource(5))
	p := newPair()
	for i := range 6000 {
		mood := weights{60, 35, 2}
		if i > 4500 {
			mood = weights{15, 45, 20}
		}
		p.step(t, r, r.Intn(4000), mood)
		if i%50 == 0 {
			p.same(t)
		}
	}
	p.same(t)
}

// R1: with all of very many used, each call ends, and each number leaves once.
func TestVeryManyThatAreUsed(t *testing.T) {
	const many = 100000
	s := New()
	for id := range many {
		s.Add(id)
	}
	for round := range 3 {
		for id := range many {
			s.Touch(id)
		}
		if !s.Add(many+round) || s.Len() != many+round+1 {
			t.Fatalf("P13.1: Len: %d", s.Len())
		}
	}
	for id := range many {
		s.Touch(id)
	}
	left := make([]bool, many+3)
	for range many + 3 {
		id, ok := s.Evict()
		if !ok || left[id] {
			t.Fatalf("P13.2: Evict: %d, %v", id, ok)
		}
		left[id] = true
	}
	if id, ok := s.Evict(); id != 0 || ok || s.Len() != 0 {
		t.Fatalf("P13.2: Evict of none: %d, %v", id, ok)
	}
}

// R5: what is told hangs on what was told alone.
func TestSameRunSameAnswers(t *testing.T) {
	run := func() string {
		p := newPair()
		r := rand.New(rand.NewSource(9))
		for i := range 800 {
			p.step(t, r, r.Intn(60), moods[i/80%len(moods)])
		}
		return state(p.s)
	}
	want := run()
	for range 3 {
		if got := run(); got != want {
			t.Fatalf("R5: %s, want %s", got, want)
		}
	}
}
