package hybrid

import (
	"encoding/binary"
	"fmt"
	"maps"
	"math/rand"
	"slices"
	"testing"

	"cellaret/api"
	"cellaret/engine"
)

// cutShape is small: so that regions are written over, buckets leave some out, and the journal is soon full.
func cutShape() engine.Geometry { return shape(3, 2, 2, 10) }

// cutKeys are the keys of a state, and some that it has not.
func cutKeys() []string {
	return []string{"new", "s0", "s1", "s2", "s3", "s4", "g0", "g1", "g2", "g3", "g4", "g5", "d", "e", "m", "w"}
}

// cutState is a store with items in memory, on the device and in both, small and great, Clean and not, written
// and waiting, dead at 50 and deleted.
func cutState(t *testing.T) *pair {
	t.Helper()
	x := beginOn(t, device(t, engine.Pages(cutShape())), cutShape(), 2)
	for k, size := range []int{60, 110, 90, 120, 100} {
		x.sets(sized(fmt.Sprint("s", k), size))
	}
	for k, size := range []int{700, 1050, 700, 400, 900, 700} {
		x.sets(sized(fmt.Sprint("g", k), size))
	}
	x.sets(timed("d", 1050, 50), timed("e", 100, 50), sized("m", 1050))
	x.get("g1", 0)
	x.get("s3", 0)
	x.deletes("s1", 0, true, api.OK)
	x.sets(sized("g2", 800), sized("s0", 70), sized("g5", 800))
	x.get("d", 0)
	return x
}

// fullState is one whose journal is full, and whose reserved versions are all told: so Remove wipes, and Version
// stores a block.
func fullState(t *testing.T) *pair {
	t.Helper()
	x := cutState(t)
	for range 64 - x.b.top {
		x.sets(sized("w", 1050))
	}
	for range cutShape().Journal - x.journalUsed() {
		x.deletes("s1", 0, false, api.OK)
	}
	return x
}

// journalUsed tells how many pages of the journal are of the block's generation.
func (x *pair) journalUsed() int {
	n := 0
	for page := range x.p.g.Journal {
		b, e := x.d.Read(2 + page)
		if e == api.OK && binary.LittleEndian.Uint64(b[8:]) == x.p.e.Block().Gen {
			n++
		}
	}
	return n
}

// The states are what their names say: else a test that cuts them would tell less.
func TestStates(t *testing.T) {
	x := cutState(t)
	x.stands("the state", "g517 d12* g17*", "s23 s45 e13 s016 s34 d12 m14 g215")
	if x.journalUsed() == 3 || x.b.top >= 60 || len(x.d.Waiting()) == 0 {
		t.Errorf("the state: %d pages of the journal, version %d, %v wait", x.journalUsed(), x.b.top, x.d.Waiting())
	}
	x = fullState(t)
	x.stands("the full state", "g517 w64 d12*", "s23 s45 e13 s016 s34 d12 m14 g215")
	if x.journalUsed() != 3 || x.b.top != 64 {
		t.Errorf("the full state: %d pages of the journal, version %d", x.journalUsed(), x.b.top)
	}
}

// change is a call that may be cut off.
type change struct {
	name string
	call func(x *pair) api.Errno
}

func changes() []change {
	l := []change{
		{"Wipe", func(x *pair) api.Errno { return x.wipe() }},
		{"Shutdown", func(x *pair) api.Errno { return x.shutdown() }},
	}
	for _, key := range cutKeys() {
		for _, size := range []int{60, 300, 1050} {
			l = append(l, change{fmt.Sprint("Set of ", key, " with ", size), func(x *pair) api.Errno { _, e := x.set(sized(key, size), 0); return e }})
		}
		for _, now := range []int64{0, 60} {
			l = append(l, change{fmt.Sprint("Get of ", key, " at ", now), func(x *pair) api.Errno { _, _, e := x.get(key, now); return e }})
			l = append(l, change{fmt.Sprint("Delete of ", key, " at ", now), func(x *pair) api.Errno { _, e := x.remove(key, now); return e }})
		}
	}
	return l
}

// picksOf are all the picks of so many pages that wait.
func picksOf(n int) [][]byte {
	l := [][]byte{nil}
	for range n {
		var more [][]byte
		for _, p := range l {
			for pick := range byte(3) {
				more = append(more, append(slices.Clone(p), pick))
			}
		}
		l = more
	}
	return l
}

// afterCrash opens a copy of the device behind a crash: each key tells what Set told last, or nothing; and once
// again behind another crash: what was told to be none stays so.
func (x *pair) afterCrash(what string, picks, more []byte) {
	x.t.Helper()
	d := x.d.Copy()
	last := maps.Clone(x.b.last)
	for turn, p := range [][]byte{picks, more} {
		d.Crash(p)
		d.On()
		s, e := Open(d, x.p.g, x.p.pages, 0)
		if e != api.OK {
			x.t.Fatalf("P16.1: %s: Open behind a crash: %d", what, e)
		}
		for _, key := range cutKeys() {
			y, ok, e := s.Get(key, 0)
			if e != api.OK || ok && y != last[key] || !ok && y != (api.Item{}) {
				x.t.Errorf("P16.5: %s, picks %v, crash %d: Get(%s): %s, %t, %d, and Set told %s", what, p, turn, key, names([]api.Item{y}), ok, e, names([]api.Item{last[key]}))
			}
			if !ok {
				delete(last, key)
			}
		}
		if v, e := s.Set(sized("next", 60), 0); v <= x.b.top || e != api.OK {
			x.t.Errorf("T3: %s: the next version: %d, %d, behind %d", what, v, e, x.b.top)
		}
	}
}

// cutAt lets the power go at one step of a call, and tells its error.
func cutAt(t *testing.T, r *rand.Rand, x *pair, c change, step int) api.Errno {
	t.Helper()
	x.arm(step)
	e := c.call(x)
	if e != api.OK && e != api.EOFF || (e == api.EOFF) == x.d.Power() {
		t.Fatalf("P16: cut at %d: %d, power %t", step, e, x.d.Power())
	}
	what := fmt.Sprint("cut at ", step)
	for _, picks := range picksOf(len(x.d.Waiting())) {
		more := make([]byte, 4)
		r.Read(more)
		x.afterCrash(what, picks, more)
	}
	return e
}

// The power goes at each step of each call, with all picks.
func TestCut(t *testing.T) {
	for i, c := range changes() {
		for k, state := range []func(t *testing.T) *pair{cutState, fullState} {
			t.Run(fmt.Sprint(c.name, ", state ", k), func(t *testing.T) {
				t.Parallel()
				r := rand.New(rand.NewSource(int64(i)))
				step := 1
				for cutAt(t, r, state(t), c, step) == api.EOFF && !t.Failed() {
					step++
				}
			})
		}
	}
}

// Open behind a clean end, cut at each of its steps: all is there again, or what the Spill was to write may be
// gone; nothing else is told.
func TestCutOpen(t *testing.T) {
	steps := 0
	for step := 1; steps == step-1; step++ {
		x := cutState(t)
		x.shutdown()
		x.p.pages = 1
		x.arm(step)
		if x.open(1, 0) == api.EOFF {
			steps++
		}
		for _, picks := range picksOf(len(x.d.Waiting())) {
			x.afterCrash(fmt.Sprint("Open cut at ", step), picks, []byte{1, 2, 0, 1})
		}
	}
	if steps < 3 {
		t.Errorf("P16.1: Open takes %d steps", steps)
	}
}

// A call that is cut, and another one that is cut behind the next opening.
func TestCutUponCut(t *testing.T) {
	r := rand.New(rand.NewSource(2))
	l := changes()
	for turn := range 600 {
		x := cutState(t)
		for range 4 {
			c := l[r.Intn(len(l))]
			x.arm(1 + r.Intn(7))
			c.call(x)
			picks := make([]byte, 8)
			r.Read(picks)
			x.crash(1+r.Intn(2), 0, picks...)
			for _, key := range cutKeys()[r.Intn(10):] {
				x.get(key, 0)
			}
		}
		if t.Failed() {
			t.Fatalf("turn %d", turn)
		}
	}
}

// A call that goes well is done whole, whatever crash comes behind it: a Set's key tells the new item or
// nothing, one that was deleted nothing.
func TestCrashBehindEachCall(t *testing.T) {
	r := rand.New(rand.NewSource(3))
	for _, c := range changes() {
		x := cutState(t)
		if e := c.call(x); e != api.OK {
			t.Errorf("P16: %s: %d", c.name, e)
		}
		for range 20 {
			picks := make([]byte, 8)
			r.Read(picks)
			x.afterCrash(c.name, picks, picks[4:])
		}
	}
}
