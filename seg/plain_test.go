package seg

import (
	"fmt"
	"slices"
	"testing"
)

// plain is the three lists by the chapter's words: rows from the head on, and a map with those that are used.
type plain struct {
	hot, warm, cold []int
	used            map[int]bool
}

func newPlain() *plain { return &plain{used: map[int]bool{}} }

func (w *plain) count() int { return len(w.hot) + len(w.warm) + len(w.cold) }

func (w *plain) has(id int) bool {
	return slices.Contains(w.hot, id) || slices.Contains(w.warm, id) || slices.Contains(w.cold, id)
}

// without has a row as it is when one number is gone.
func without(row []int, id int) []int {
	return slices.DeleteFunc(slices.Clone(row), func(x int) bool { return x == id })
}

// ahead has a row as it is with one number more, at the head.
func ahead(id int, row []int) []int { return append([]int{id}, row...) }

// out takes a number out of all.
func (w *plain) out(id int) {
	w.hot, w.warm, w.cold = without(w.hot, id), without(w.warm, id), without(w.cold, id)
	delete(w.used, id)
}

// toWarm and toCold are what becomes of a list's last one.
func (w *plain) toWarm(id int) {
	w.out(id)
	w.warm = ahead(id, w.warm)
}

func (w *plain) toCold(id int) {
	w.out(id)
	w.cold = ahead(id, w.cold)
}

func lastOf(row []int) int { return row[len(row)-1] }

// add is the chapter's Add, with its balance.
func (w *plain) add(id int) bool {
	if w.has(id) {
		return false
	}
	w.hot = ahead(id, w.hot)
	n := w.count()
	for 5*len(w.hot) > n+4 {
		if id := lastOf(w.hot); w.used[id] {
			w.toWarm(id)
		} else {
			w.toCold(id)
		}
	}
	for 5*len(w.warm) > 2*n {
		if id := lastOf(w.warm); w.used[id] {
			w.toWarm(id)
		} else {
			w.toCold(id)
		}
	}
	return true
}

// touch is the chapter's Touch.
func (w *plain) touch(id int) bool {
	if w.has(id) {
		w.used[id] = true
	}
	return w.has(id)
}

// remove is the chapter's Remove.
func (w *plain) remove(id int) bool {
	there := w.has(id)
	w.out(id)
	return there
}

// evict is the chapter's Evict.
func (w *plain) evict() (int, bool) {
	for len(w.cold) > 0 && w.used[lastOf(w.cold)] {
		w.toWarm(lastOf(w.cold))
	}
	row := w.cold
	if len(row) == 0 {
		row = w.warm
	}
	if len(row) == 0 {
		row = w.hot
	}
	if len(row) == 0 {
		return 0, false
	}
	id := lastOf(row)
	w.out(id)
	return id, true
}

// text is what a Seg tells of itself, as text.
func text(hot, warm, cold []int) string {
	return fmt.Sprint("hot ", hot, " warm ", warm, " cold ", cold)
}

func state(s *Seg) string { return fmt.Sprint(text(s.Lists()), ", ", s.Len(), " in all") }

func (w *plain) state() string {
	return fmt.Sprint(text(w.hot, w.warm, w.cold), ", ", w.count(), " in all")
}

// pair is a Seg and the plain lists that it is held against.
type pair struct {
	s *Seg
	w *plain
}

func newPair() pair { return pair{New(), newPlain()} }

func (p pair) add(t *testing.T, id int) {
	t.Helper()
	if got, want := p.s.Add(id), p.w.add(id); got != want {
		t.Fatalf("P13.1: Add(%d): %v, want %v", id, got, want)
	}
}

func (p pair) touch(t *testing.T, id int) {
	t.Helper()
	if got, want := p.s.Touch(id), p.w.touch(id); got != want {
		t.Fatalf("P13.1: Touch(%d): %v, want %v", id, got, want)
	}
}

func (p pair) remove(t *testing.T, id int) {
	t.Helper()
	if got, want := p.s.Remove(id), p.w.remove(id); got != want {
		t.Fatalf("P13.1: Remove(%d): %v, want %v", id, got, want)
	}
}

func (p pair) evict(t *testing.T) {
	t.Helper()
	id, ok := p.s.Evict()
	if want, had := p.w.evict(); id != want || ok != had {
		t.Fatalf("P13.2: Evict: %d, %v, want %d, %v", id, ok, want, had)
	}
}

// same holds all that both tell against each other.
func (p pair) same(t *testing.T) {
	t.Helper()
	hot, warm, cold := p.s.Lists()
	if !slices.Equal(hot, p.w.hot) || !slices.Equal(warm, p.w.warm) || !slices.Equal(cold, p.w.cold) || p.s.Len() != p.w.count() {
		t.Fatalf("P13.2: %s, want %s", state(p.s), p.w.state())
	}
}

// probe goes on with new numbers, and then lets all go: by that each one's use comes to light.
func (p pair) probe(t *testing.T) {
	t.Helper()
	for i := range 2*p.w.count() + 3 {
		p.add(t, 1000+i)
		p.same(t)
	}
	for range p.w.count() + 1 {
		p.evict(t)
		p.same(t)
	}
}
