package hybrid

import (
	"fmt"
	"math"
	"math/rand"
	"slices"
	"testing"

	"cellaret/api"
	"cellaret/engine"
	"cellaret/flash"
	"cellaret/super"
)

// lose makes a store done.
func (x *pair) lose() { x.both(func(d *flash.Dev) { d.Crash(nil) }) }

// A Set that needs nothing of the device goes well, whichever way the power went: as long as versions are
// reserved.
func TestDoneSetWithRoom(t *testing.T) {
	for name, loss := range losses() {
		g := shape(1, 1, 1, 0)
		x := beginOn(t, device(t, 70), g, 1)
		x.sets(api.Item{Key: "4"})
		x.both(loss)
		ahead := x.d.Copy()
		for turn := range uint64(63) {
			y := api.Item{Key: []string{"b", "4", "c"}[turn%3], Value: fmt.Sprint(turn), Flags: 9}
			if v, e := x.set(y, 0); v != turn+2 || e != api.OK {
				t.Errorf("P16.3: done by %s: Set of number %d: %d, %d", name, turn, v, e)
			}
			y.Version = turn + 2
			if got, ok, e := x.get(y.Key, 0); got != y || !ok || e != api.OK {
				t.Errorf("P16.2: done by %s: Get behind Set: %+v, %t, %d, want %+v", name, got, ok, e, y)
			}
			x.refuses(api.Item{}, 0, api.EARG)
			x.refuses(api.Item{Key: "b", Value: fmt.Sprintf("%01025d", 0)}, 0, api.EARG)
		}
		for _, key := range []string{"4", "b", "c", "new"} { // a block would be stored
			x.refuses(api.Item{Key: key}, 0, api.EOFF)
		}
		x.stands("P16.3: done by "+name, "c64 463 b62", "")
		x.deletes("4", 0, true, api.OK)
		x.refuses(api.Item{Key: "4"}, 0, api.EOFF)
		x.stands("P16.3: done by "+name, "c64 b62", "")
		if differ(x.d, ahead) || x.s.Lost() != 0 {
			t.Errorf("P16: done by %s: the device is changed, or Lost is %d", name, x.s.Lost())
		}
		x.crash(1, 0)
		x.stands("P16.5: behind it", "", "")
		x.sets(api.Item{Key: "4"}) // with a version above all that were told
	}
}

// With the first Set a block would be stored.
func TestDoneAheadOfTheFirstSet(t *testing.T) {
	x := begin(t, 1)
	x.lose()
	x.refuses(api.Item{}, 0, api.EARG)
	x.refuses(sized("a", 60), 0, api.EOFF)
	x.deletes("a", 0, false, api.OK)
	x.tells("a", 0, 0, api.OK)
	x.stands("P16.3: done ahead of the first Set", "", "")
}

// Where a block would be stored nothing is done: the key stays. Where no version is left, the device has no part
// in it: the key goes, as it does on any store.
func TestDoneWithoutVersions(t *testing.T) {
	x := reservedUp(t)
	x.lose()
	for _, size := range []int{60, 1050} {
		for _, key := range []string{"z", "k", "y", "new"} {
			x.refuses(sized(key, size), 0, api.EOFF)
		}
		x.stands("P16.3: no version is reserved", "k62* z64", "")
	}
	x.tells("z", 0, 64, api.OK)

	x = beginOn(t, numbered(t, little(), super.Block{Seq: 1, Reserved: most - 4}), little(), 1)
	x.sets(sized("a", 1050), sized("b", 1050), sized("c", 1050))
	x.lose()
	if v, e := x.set(sized("c", 1050), 0); v != most || e != api.OK {
		t.Errorf("P16.3: the last version: %d, %d", v, e)
	}
	x.refuses(sized("new", 60), 0, api.EWORN)
	x.refuses(sized("a", 60), 0, api.EOFF) // it would be removed
	x.stands("P16.3: no version is left", "c18446744073709551615 b18446744073709551613", "")
	for _, key := range []string{"c", "b"} {
		x.tells(key, 0, x.b.last[key].Version, api.OK)
		x.refuses(sized(key, 1050), 0, api.EWORN)
		x.tells(key, 0, 0, api.OK)
	}
	x.stands("P16.3: no version is left", "", "")
}

// What a Set lets go decides: what is Clean or dead needs no device, and neither does a great one for which the
// log has room.
func TestDoneSetThatLetsGo(t *testing.T) {
	fill := func(l ...api.Item) func(t *testing.T) *pair {
		return func(t *testing.T) *pair {
			x := begin(t, 1)
			x.sets(l...)
			return x
		}
	}
	of := func(n, size int) []api.Item {
		var l []api.Item
		for k := range n {
			l = append(l, sized(fmt.Sprint("k", k), size))
		}
		return l
	}
	great := of(2, 1050)
	mortal := func(exp int64) []api.Item { return []api.Item{timed("k0", 1050, exp), sized("k1", 1050)} }
	for name, c := range map[string]struct {
		state  func(t *testing.T) *pair
		y      api.Item
		now    int64
		memory string // behind it; none, where it is refused
	}{
		"a small one":                {state: fill(of(32, 100)...), y: sized("z", 100)},
		"a great one, with room":     {state: fill(great...), y: sized("z", 1050), memory: "z3 k12"},
		"two great ones, with room":  {state: fill(of(2, 700)...), y: sized("z", 1050), memory: "z3"},
		"three, with room":           {state: fill(of(3, 490)...), y: sized("z", 1050), memory: "z4"},
		"three, to the last byte":    {state: fill(append(of(2, 490), sized("k2", 492))...), y: sized("z", 1050), memory: "z4"},
		"three, one byte too much":   {state: fill(append(of(2, 490), sized("k2", 493))...), y: sized("z", 1050)},
		"four, too much":             {state: fill(of(4, 490)...), y: sized("z", 1050)},
		"one for one's own place":    {state: fill(great...), y: sized("k0", 1050), memory: "k03 k12"},
		"others for one's own place": {state: fill(great...), y: sized("k0", 60), memory: "k03"},
		"all, small":                 {state: fill(of(2, 60)...), y: sized("z", 1050)},
		"all, but one's own":         {state: fill(of(1, 60)...), y: sized("k0", 1050), memory: "k02"},
		"a dead one":                 {state: fill(mortal(50)...), y: sized("z", 1050), now: 50, memory: "z3 k12"},
		"dead small ones":            {state: fill(timed("k0", 60, 50), timed("k1", 60, 49)), y: sized("z", 1050), now: 50, memory: "z3"},
		"small ones, one not dead":   {state: fill(timed("k0", 60, 50), timed("k1", 60, 51)), y: sized("z", 1050), now: 50},
		"great, and the log is full": {state: three, y: sized("z", 1050)},
		"dead, and the log is full": {
			state: func(t *testing.T) *pair {
				x := begin(t, 1)
				x.sets(sized("a", 1050), timed("b", 1050, 50), sized("c", 1050))
				return x
			},
			y: sized("z", 1050), now: 50, memory: "z4 c3",
		},
		"Clean, and the log is full": {
			state: func(t *testing.T) *pair {
				x := three(t)
				x.tells("a", 0, 1, api.OK)
				x.tells("b", 0, 2, api.OK)
				x.stands("P16.2: ahead", "b2* a1*", "a1 b2 c3")
				return x
			},
			y: sized("z", 1050), memory: "z4 b2*",
		},
	} {
		x := c.state(t)
		ahead, keys := outs(x.s.Memory()), x.s.Memory()
		x.lose()
		top := x.b.top
		if c.memory == "" {
			x.refuses(c.y, c.now, api.EOFF)
			x.stands("P16.3: "+name, ahead, "")
			x.refuses(c.y, c.now, api.EOFF) // and again
			x.stands("P16.3: "+name, ahead, "")
			for _, o := range keys { // none was put to the device ahead of one that can't be
				x.deletes(o.Item.Key, c.now, !dead(o.Item, c.now), api.OK)
			}
			if v, e := x.set(c.y, c.now); v != top+1 || e != api.OK { // and no version was taken
				t.Errorf("P16.3: %s: Set with room: %d, %d", name, v, e)
			}
			continue
		}
		if v, e := x.set(c.y, c.now); v != top+1 || e != api.OK || x.s.Lost() != 0 {
			t.Errorf("P16.3: %s: %d, %d, Lost %d", name, v, e, x.s.Lost())
		}
		x.stands("P16.3: "+name, c.memory, "")
		y := c.y
		y.Version = top + 1
		if got, ok, e := x.get(y.Key, c.now); got != y || !ok || e != api.OK {
			t.Errorf("P16.2: %s: Get behind it: %d, %t, %d", name, got.Version, ok, e)
		}
		x.crash(1, 0)
		x.tells(c.y.Key, 0, 0, api.OK)
	}
}

// Several of other classes: a small one among them is told ahead, and the great ones ahead of it are not put.
func TestDoneSetThatLetsGoOfTwoClasses(t *testing.T) {
	for _, withSmall := range []bool{false, true} {
		x := begin(t, 2)
		x.sets(sized("g0", 400), sized("g1", 400), sized("g2", 400), sized("s", 60))
		if !withSmall {
			x.deletes("s", 0, true, api.OK)
		}
		x.lose()
		if withSmall {
			x.refuses(sized("z", 1050), 0, api.EOFF)
			x.stands("P16.3: a small one is let go", "s4 g23 g12 g01", "")
			for _, key := range []string{"g0", "g1", "s"} {
				x.deletes(key, 0, true, api.OK)
			}
			continue
		}
		x.sets(sized("z", 1050))
		x.stands("P16.3: a page is free", "g23 g12 g01 z5", "")
	}
}

// What was let go to the log is the device's: its key needs it from then on.
func TestDoneWithWhatTheLogHasInMemory(t *testing.T) {
	x := begin(t, 1)
	x.sets(sized("a", 1050), sized("b", 1050))
	x.lose()
	x.sets(sized("c", 1050))
	x.refuses(sized("a", 60), 0, api.EOFF) // it would be removed
	x.deletes("a", 0, false, api.EOFF)
	x.tells("a", 0, 0, api.EOFF) // b would be let go for it, and has no room in the log
	x.stands("P16.2: not moved up", "c3 b2", "")
	x.tells("b", 0, 2, api.OK)
	x.deletes("c", 0, true, api.OK)
	x.tells("a", 0, 1, api.OK) // there is room
	x.stands("P16.2: moved up", "a1* b2", "")
	x.deletes("b", 0, true, api.OK)
	x.sets(sized("d", 1050), sized("e", 1050)) // a is Clean
	x.stands("P16.3: a Clean one is let go", "e5 d4", "")
	x.crash(1, 0)
	for _, key := range []string{"a", "b", "c", "d", "e"} {
		x.tells(key, 0, 0, api.OK)
	}
}

// A Get that moves up what needs no device: of what the log has, as long as memory has room, or lets go what is
// Clean, dead, or has room in the log.
func TestDoneGetThatMovesUp(t *testing.T) {
	x := three(t)
	x.deletes("c", 0, true, api.OK)
	x.lose()
	x.tells("a", 0, 1, api.OK)
	x.stands("P16.2: with room", "a1* b2", "")

	x = three(t)
	x.tells("a", 0, 1, api.OK)
	x.tells("b", 0, 2, api.OK)
	x.lose()
	x.tells("c", 0, 3, api.OK)
	x.stands("P16.2: a Clean one is let go", "c3* b2*", "")

	for _, now := range []int64{49, 50} {
		x = begin(t, 1)
		x.sets(sized("a", 1050), timed("b", 1050, 50), sized("c", 1050))
		x.lose()
		if now < 50 {
			x.tells("a", now, 0, api.EOFF)
			x.stands("P16.2: not moved up", "c3 b2", "")
			continue
		}
		x.tells("a", now, 1, api.OK)
		x.stands("P16.2: a dead one is let go", "a1* c3", "")
	}

	x = beginOn(t, device(t, engine.Pages(little())), little(), 1)
	x.sets(sized("a", 700), sized("b", 1050), sized("c", 600))
	x.stands("P16.2: ahead", "c3", "a1 b2")
	x.lose()
	x.tells("a", 0, 1, api.OK)
	x.stands("P16.2: with room on the page", "a1* c3", "")
	x.tells("b", 0, 0, api.EOFF)
	x.stands("P16.2: c has no room in the log", "a1* c3", "")
	if x.s.Lost() != 0 {
		t.Errorf("P16.2: Lost: %d", x.s.Lost())
	}
}

// The power goes in the midst of a call: from the next one on the store is done.
func TestDoneInTheMidst(t *testing.T) {
	for step := 1; step <= 5; step++ {
		x := three(t)
		x.arm(step)
		x.refuses(sized("d", 1050), 0, api.EOFF)
		x.stands("P16.3: x is kept", "d4 c3", "")
		for range 2 {
			x.refuses(sized("e", 1050), 0, api.EOFF) // c has no room in the log
			x.refuses(sized("a", 60), 0, api.EOFF)
			x.stands("P16.3: nothing is done", "d4 c3", "")
		}
		if x.s.Lost() != 1 {
			t.Errorf("P16.2: Lost: %d", x.s.Lost())
		}
		x.deletes("c", 0, true, api.OK)
		x.sets(sized("e", 1050))
		x.stands("P16.3: with room", "e5 d4", "")
		x.refuses(sized("d", 400), 0, api.EOFF) // e would be let go for the page, and has no room in the log
		x.sets(sized("d", 1050))
		x.stands("P16.3: at its own place", "d6 e5", "")
	}
}

// answer is what a call told.
type answer struct {
	item    api.Item
	ok      bool
	version uint64
	e       api.Errno
}

// deed is a call.
type deed struct {
	name string
	call func(s *Store) answer
}

// life is a store's calls from its Open on, but for those that were refused.
type life struct {
	t     *testing.T
	d     *flash.Dev // as it was ahead of Open
	g     engine.Geometry
	pages int
	deeds []deed
}

// anew opens another store on a device whose power stays, and does all that the first one did.
func (l *life) anew() (*Store, *flash.Dev) {
	l.t.Helper()
	d := l.d.Copy()
	s, e := Open(d, l.g, l.pages, 0)
	if e != api.OK {
		l.t.Fatalf("P16.1: Open: %d", e)
	}
	for _, c := range l.deeds {
		c.call(s)
	}
	return s, d
}

// seen counts what a run has met: a test that meets it not tells nothing of it.
type seen struct{ refused, answered, moved, letGo, several int }

// asks asks a store that is done. What its device would have been asked for is seen on a store that is the same,
// and not done: if it was asked for anything, EOFF is told and nothing done; else both tell the same.
func (l *life) asks(s *Store, c deed, n *seen) {
	l.t.Helper()
	other, d := l.anew()
	memory, lost, had := s.Memory(), s.Lost(), len(other.Memory())
	ahead := d.Stat()
	want := c.call(other)
	if d.Stat() != ahead {
		want = answer{e: api.EOFF}
		n.refused++
	} else {
		memory, lost = other.Memory(), other.Lost()
		l.deeds = append(l.deeds, c)
		n.count(want, had, len(memory))
	}
	if got := c.call(s); got != want {
		l.t.Errorf("P16: %s of one that is done: %+v, want %+v", c.name, got, want)
	}
	if m := s.Memory(); !slices.Equal(m, memory) || s.Lost() != lost {
		l.t.Errorf("P16: %s of one that is done: memory %s, Lost %d, want %s, %d", c.name, outs(m), s.Lost(), outs(memory), lost)
	}
}

func (n *seen) count(a answer, had, has int) {
	n.answered++
	if a.item.Key != "" && has > had {
		n.moved++
	}
	if a.version > 0 && has <= had {
		n.letGo++
	}
	if a.version > 0 && has < had-1 {
		n.several++
	}
}

// deeds are calls of all kinds, at random.
func deeds(r *rand.Rand, keys int) deed {
	key := fmt.Sprint("k", r.Intn(keys))
	now := int64(r.Intn(12))
	switch n := r.Intn(100); {
	case n < 45:
		y := sized(key, []int{40, 60, 100, 121, 130, 200, 300, 400, 490, 700, 1050}[r.Intn(11)])
		if r.Intn(3) == 0 {
			y.Exp = int64(r.Intn(14))
		}
		if r.Intn(30) == 0 {
			y = noGood()[r.Intn(len(noGood()))]
		}
		return deed{fmt.Sprintf("Set(%.9q, %d bytes, Exp %d, %d)", y.Key, len(y.Value), y.Exp, now), func(s *Store) answer {
			v, e := s.Set(y, now)
			return answer{version: v, e: e}
		}}
	case n < 80:
		return deed{fmt.Sprintf("Get(%s, %d)", key, now), func(s *Store) answer {
			x, ok, e := s.Get(key, now)
			return answer{item: x, ok: ok, e: e}
		}}
	case n < 98:
		return deed{fmt.Sprintf("Delete(%s, %d)", key, now), func(s *Store) answer {
			ok, e := s.Delete(key, now)
			return answer{ok: ok, e: e}
		}}
	}
	return deed{"Wipe", func(s *Store) answer { return answer{e: s.Wipe()} }}
}

// Calls at random, ahead of the loss and behind it: each is held against a store that has its power.
func TestDoneAtRandom(t *testing.T) {
	var all seen
	for seed := range int64(150) {
		r := rand.New(rand.NewSource(seed))
		g := shape(20, 1+r.Intn(8), 1+r.Intn(3), 24)
		l := &life{t: t, d: device(t, engine.Pages(g)), g: g, pages: 1 + r.Intn(3)}
		keys := 3 + r.Intn(20)
		for range r.Intn(3) { // what was taken up is not Clean, whether the device has it or not
			s, d := l.anew()
			for range r.Intn(40) {
				deeds(r, keys).call(s)
			}
			if e := s.Shutdown(); e != api.OK {
				t.Fatalf("P16.4: Shutdown: %d", e)
			}
			l.d = d
		}
		for range 1 + r.Intn(50) {
			l.deeds = append(l.deeds, deeds(r, keys))
		}
		s, d := l.anew()
		d.Crash(nil)
		if r.Intn(2) == 0 {
			d.On()
		}
		ahead := d.Copy()
		for range 40 {
			l.asks(s, deeds(r, keys), &all)
		}
		if differ(d, ahead) || d.Stat() != ahead.Stat() || len(s.Device()) > 0 {
			t.Errorf("P16: the device is touched by one that is done: %+v, ahead %+v", d.Stat(), ahead.Stat())
		}
		if t.Failed() {
			t.Fatalf("seed %d", seed)
		}
	}
	if all.refused < 1000 || all.answered < 1000 || all.moved < 20 || all.letGo < 100 || all.several < 10 {
		t.Errorf("the runs met too little: %+v", all)
	}
}

// A store that is done for good goes on as one, however long.
func TestDoneAtAnyTime(t *testing.T) {
	x := begin(t, 1)
	x.sets(sized("a", 60))
	x.lose()
	for _, now := range []int64{math.MinInt64, -1, 0, 1, math.MaxInt64} {
		if _, e := x.set(timed("d", 60, 1), now); e != api.OK {
			t.Errorf("P16.3: Set at %d: %d", now, e)
		}
		x.get("d", now)
		x.get("a", now)
	}
}
