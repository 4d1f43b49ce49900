package hybrid

import (
	"fmt"
	"math"
	"strings"
	"testing"

	"cellaret/api"
	"cellaret/engine"
	"cellaret/flash"
	"cellaret/super"
)

// noGood are items that may not be, each for one reason.
func noGood() []api.Item {
	return []api.Item{
		{},
		{Value: "v", Version: 1},
		{Key: strings.Repeat("k", 251)},
		{Key: strings.Repeat("k", 256)},
		{Key: strings.Repeat("k", 70000)},
		{Key: "a", Value: strings.Repeat("v", 1025)},
		{Key: "a", Value: strings.Repeat("v", 65536)},
	}
}

func TestSetRefused(t *testing.T) {
	x := three(t)
	x.quiet("P16.3: EARG", func() {
		for _, y := range noGood() {
			x.refuses(y, 0, api.EARG)
		}
	})
	x.stands("R3: EARG", "c3 b2", "a1")
	x.sets(sized("d", 1050))
	x.tells("d", 0, 4, api.OK) // no version was taken
}

func TestSetAtTheEdges(t *testing.T) {
	for i, y := range []api.Item{
		{Key: "k"},
		{Key: "k", Value: strings.Repeat("v", 1024)},
		{Key: strings.Repeat("k", 250)},
		{Key: strings.Repeat("k", 250), Value: strings.Repeat("v", 1024), Flags: math.MaxUint32, Exp: math.MaxInt64},
		{Key: "\x00", Value: "\x00\xff\r\n é"},
		{Key: "k", Exp: math.MinInt64, Version: 0},
		{Key: "k", Exp: -1, Version: 77}, // whatever version is handed in
		{Key: "k", Version: most},
	} {
		x := begin(t, 1)
		for turn := range uint64(3) {
			v, e := x.set(y, math.MinInt64)
			want := y
			want.Version = turn + 1
			if m := x.s.Memory(); v != turn+1 || e != api.OK || len(m) != 1 || m[0].Item != want || m[0].Clean {
				t.Errorf("P16.3: Set of number %d: %d, %d", i, v, e)
			}
		}
		x.again(1, math.MinInt64)
	}
}

// Set of one that is dead at once: it is kept, and told to be none.
func TestSetOfADeadOne(t *testing.T) {
	x := begin(t, 1)
	if v, e := x.set(timed("d", 60, 5), 9); v != 1 || e != api.OK {
		t.Errorf("P16.3: Set of a dead one: %d, %d", v, e)
	}
	x.stands("P16.3: Set of a dead one", "d1", "")
	x.tells("d", 9, 0, api.OK)
	x.stands("P16.2: dead", "", "")
}

// Of a key that is in memory, on the device, in both: the elder one is gone from everywhere.
func TestSetOfAKeyThatIsThere(t *testing.T) {
	for _, size := range []int{60, 300, 1050} {
		for _, old := range []int{60, 300, 1050} {
			x := begin(t, 2)
			x.sets(sized("k", old))
			x.quiet("P16.3: in memory alone", func() { x.sets(sized("k", size)) })
			x.stands("P16.3: in memory alone", "k2", "")

			x = begin(t, 1)
			x.sets(sized("k", old), sized("y", 1050), sized("z", 1050), sized("w", 1050))
			if l := names(x.s.Device()); !strings.Contains(l, "k1") {
				t.Fatalf("P16.2: on the device: %s", l)
			}
			x.sets(sized("k", size))
			if m, l := outs(x.s.Memory()), names(x.s.Device()); !strings.Contains(m, "k5") || strings.Contains(m+l, "k1") {
				t.Errorf("P16.3: on the device alone: %s; %s", m, l)
			}

			x = bothHave(t, sized("k", old))
			x.sets(sized("k", size))
			if m, l := outs(x.s.Memory()), names(x.s.Device()); !strings.Contains(m, "k5") || strings.Contains(m, "k5*") || strings.Contains(m+l, "k1") {
				t.Errorf("P16.3: in both: %s; %s", m, l)
			}
			x.tells("k", 0, 5, api.OK)
			x.crash(1, 0, 1, 1, 1, 1, 1, 1)
			x.tells("k", 0, 0, api.OK)
		}
	}
}

// The removal comes first: cut there, nothing else is done.
func TestSetWhoseRemovalIsCut(t *testing.T) {
	for step := 1; step <= 2; step++ {
		x := bothHave(t, sized("k", 1050))
		ahead := outs(x.s.Memory())
		x.arm(step)
		x.refuses(sized("k", 60), 0, api.EOFF)
		if m := outs(x.s.Memory()); m != ahead {
			t.Errorf("P16.3: cut at %d: %s, ahead %s", step, m, ahead)
		}
		x.tells("k", 0, 1, api.OK) // out of memory
	}
	// an error that is no EOFF: the device has it too as before, and no version is taken
	x := wornBlock(t, sized("k", 1050))
	for range 2 {
		x.quiet("P16.3: EWORN", func() { x.refuses(sized("k", 60), 0, api.EWORN) })
		x.stands("P16.3: EWORN of Remove", "k66* c68", "k66 b67")
	}
	x.sets(sized("new", 60))
	x.stands("P16.3: another key", "new69", "k66 b67 c68")
	x.refuses(sized("k", 60), 0, api.EWORN)
	x.tells("k", 0, 66, api.OK)
}

// reservedUp makes a store that has told all versions that are reserved: the device has k, memory k and z.
func reservedUp(t *testing.T) *pair {
	t.Helper()
	x := begin(t, 1)
	for range 61 {
		x.sets(sized("p", 1050))
	}
	x.sets(sized("k", 1050), sized("y", 1050), sized("z", 1050))
	x.tells("k", 0, 62, api.OK)
	x.stands("P16.2: ahead", "k62* z64", "p61 k62 y63")
	return x
}

// With an error of Version the key is gone: from memory, and from the device, if it was removed.
func TestSetWhoseVersionHasAnError(t *testing.T) {
	for step := 3; step <= 4; step++ { // behind the two of the removal
		for pick := range byte(3) {
			x := reservedUp(t)
			x.arm(step)
			x.refuses(sized("k", 60), 0, api.EOFF)
			x.stands("P16.3: the key is gone from memory", "z64", "")
			x.crash(1, 0, pick)
			x.tells("k", 0, 0, api.OK)
		}
	}
	for step := 1; step <= 2; step++ { // the device has not z: there is no removal
		x := reservedUp(t)
		x.arm(step)
		x.refuses(sized("z", 60), 0, api.EOFF)
		x.stands("P16.3: the key is gone from memory", "k62*", "")
	}
	x := reservedUp(t)
	x.arm(5) // all of it goes well: what is left is the Spill
	if v, e := x.set(sized("k", 1050), 0); v != 65 || e != api.OK {
		t.Errorf("P16.3: Set with versions that are reserved: %d, %d", v, e)
	}
}

// No version is left: a Set of any key lets it go, and keeps nothing.
func TestSetWithoutVersions(t *testing.T) {
	x := beginOn(t, numbered(t, little(), super.Block{Seq: 1, Reserved: most - 4}), little(), 1)
	x.sets(sized("a", 1050), sized("b", 1050), sized("c", 1050))
	if v, e := x.set(sized("c", 1050), 0); v != most || e != api.OK {
		t.Errorf("P16.3: the last version: %d, %d", v, e)
	}
	for _, key := range []string{"new", "a", "b", "c"} {
		x.refuses(sized(key, 1050), 0, api.EWORN)
		x.tells(key, 0, 0, api.OK)
	}
	x.stands("P16.3: no version is left", "", "")
	x.again(1, 0)
	x.stands("P16.5: behind it", "", "")
	x.refuses(sized("a", 60), 0, api.EWORN)
	// the block can't be stored any more: no version is reserved
	x = beginOn(t, numbered(t, little(), blockAt(most-2)), little(), 2)
	for range 62 {
		x.sets(sized("a", 60))
	}
	x.sets(sized("b", 60), sized("c", 60))
	x.refuses(sized("b", 60), 0, api.EWORN)
	x.stands("P16.3: no version is reserved", "c128 a126", "")
	x.tells("b", 0, 0, api.OK)
}

// x is kept, whatever becomes of what is let go for it.
func TestSetWhoseSpillIsCut(t *testing.T) {
	for step := 1; step <= 5; step++ {
		for pick := range byte(3) {
			x := three(t)
			x.arm(step) // b has no room in the open region
			x.refuses(sized("d", 1050), 0, api.EOFF)
			x.stands("P16.3: x is kept", "d4 c3", "")
			if x.s.Lost() != 1 {
				t.Errorf("P16.2: Lost: %d", x.s.Lost())
			}
			if y, ok, e := x.get("d", 0); y.Version != 4 || !ok || e != api.OK {
				t.Errorf("P16.3: x is kept: %d, %t, %d", y.Version, ok, e)
			}
			x.crash(1, 0, pick, pick, pick, pick)
			x.tells("d", 0, 0, api.OK)
		}
	}
}

// Versions rise, over all keys, ends and crashes.
func TestVersions(t *testing.T) {
	x := begin(t, 1)
	for k := range 300 {
		x.sets(sized(fmt.Sprint("k", k%7), 60)) // which holds each version against those ahead
		if k < 20 && x.b.top != uint64(k+1) {
			t.Errorf("P16.3: the version of number %d: %d", k, x.b.top)
		}
		switch {
		case k%40 == 39:
			x.crash(1, 0, 1, 1)
		case k%40 == 19:
			x.again(1, 0)
		}
		x.refuses(api.Item{}, 0, api.EARG)
	}
}

func TestDelete(t *testing.T) {
	x := three(t)
	x.quiet("P16.3: Delete of none, and of one in memory alone", func() {
		for _, key := range []string{"", "nobody", strings.Repeat("a", 251), strings.Repeat("a", 70000)} {
			x.deletes(key, 0, false, api.OK)
		}
		x.deletes("c", 0, true, api.OK)
		x.deletes("c", 0, false, api.OK)
	})
	x.stands("P16.3: Delete", "b2", "a1")
	x.deletes("a", 0, true, api.OK) // on the device alone
	x.stands("P16.3: Delete", "b2", "")
	x.deletes("a", 0, false, api.OK)
	x.tells("a", 0, 0, api.OK)
	x.crash(1, 0, 1, 1, 1)
	x.deletes("a", 0, false, api.OK)
	x.stands("P16.5: behind a crash", "", "")
}

func TestDeleteOfOneInBoth(t *testing.T) {
	for _, size := range []int{60, 300, 1050} {
		x := bothHave(t, sized("d", size))
		x.deletes("d", 0, true, api.OK)
		x.deletes("d", 0, false, api.OK)
		if m, l := outs(x.s.Memory()), names(x.s.Device()); strings.Contains(m+l, "d1") {
			t.Errorf("P16.3: Delete of one in both: %s; %s", m, l)
		}
		x.again(1, 0)
		x.tells("d", 0, 0, api.OK)
		x.crash(1, 0)
		x.tells("d", 0, 0, api.OK)
	}
}

// A dead one was not there; it is gone all the same.
func TestDeleteOfADeadOne(t *testing.T) {
	for _, c := range []struct {
		exp, now int64
		was      bool
	}{{50, 49, true}, {50, 50, false}, {50, 51, false}, {0, math.MaxInt64, true}, {-3, -4, true}, {-3, -3, false}, {math.MaxInt64, math.MaxInt64, false}} {
		x := begin(t, 1)
		x.sets(timed("d", 60, c.exp))
		x.deletes("d", c.now, c.was, api.OK)
		x.stands("P16.3: Delete in memory", "", "")

		x = begin(t, 1)
		x.sets(timed("d", 1050, c.exp))
		x.set(sized("y", 1050), math.MinInt64)
		x.set(sized("z", 1050), math.MinInt64)
		x.stands("P16.2: on the device", "z3 y2", "d1")
		x.deletes("d", c.now, c.was, api.OK)
		x.stands("P16.3: Delete on the device", "z3 y2", "")
		x.tells("d", math.MinInt64, 0, api.OK)
	}
	x := bothHave(t, timed("d", 1050, 50))
	x.deletes("d", 50, false, api.OK)
	x.tells("d", 49, 0, api.OK)
	x.crash(1, 49)
	x.tells("d", 49, 0, api.OK)
}

// Delete moves nothing up, and is no use of what it leaves where it is.
func TestDeleteMovesNothingUp(t *testing.T) {
	x := three(t)
	ahead := x.d.Stat()
	x.deletes("a", 0, true, api.OK)
	if now := x.d.Stat(); now.Writes != ahead.Writes+1 || now.Flushes != ahead.Flushes+1 {
		t.Errorf("P16.3: Delete of one on the device: %+v, ahead %+v", now, ahead)
	}
	x.stands("P16.3: Delete", "c3 b2", "")
	// a Delete that is refused: k is not spared for it
	for _, deleted := range []bool{false, true} {
		x := wornBlock(t, sized("k", 1050))
		x.tells("c", 0, 68, api.OK)
		if deleted {
			x.deletes("k", 0, false, api.EWORN)
		}
		x.tells("b", 0, 67, api.OK)
		x.stands("P16.3: let go", "b67* k66*", "k66 b67 c68")
	}
}

// The error of Remove: memory stays as it was.
func TestDeleteWhoseRemovalHasAnError(t *testing.T) {
	for step := 1; step <= 2; step++ {
		for pick := range byte(3) {
			x := bothHave(t, sized("d", 1050))
			ahead := outs(x.s.Memory())
			x.both(func(d *flash.Dev) { d.Flush() })
			x.arm(step)
			x.deletes("d", 0, false, api.EOFF)
			if m := outs(x.s.Memory()); m != ahead {
				t.Errorf("P16.3: Delete, cut at %d: %s, ahead %s", step, m, ahead)
			}
			x.tells("d", 0, 1, api.OK)
			x.crash(1, 0, pick)
		}
		x := three(t)
		x.arm(step)
		x.deletes("a", 0, false, api.EOFF)
		x.stands("P16.3: Delete of one on the device, cut", "c3 b2", "")
	}
	x := wornBlock(t, sized("k", 1050))
	for _, key := range []string{"k", "b"} {
		x.quiet("P16.3: EWORN", func() { x.deletes(key, 0, false, api.EWORN) })
		x.stands("P16.3: EWORN", "k66* c68", "k66 b67")
	}
	x.deletes("c", 0, true, api.OK) // the device has it not
	x.stands("P16.3: of one in memory alone", "k66*", "k66 b67")
}

func TestWipe(t *testing.T) {
	g := shape(16, 2, 2, 8)
	x := beginOn(t, device(t, engine.Pages(g)), g, 1)
	x.sets(sized("a", 1050), sized("b", 1050), sized("c", 1050), sized("s", 60))
	for range 2 {
		if e := x.wipe(); e != api.OK {
			t.Errorf("P16.3: Wipe: %d", e)
		}
		x.stands("P16.3: Wipe", "", "")
		for _, key := range []string{"a", "b", "c", "s"} {
			x.tells(key, 0, 0, api.OK)
			x.deletes(key, 0, false, api.OK)
		}
	}
	x.sets(sized("a", 1050), sized("b", 1050), sized("c", 1050))
	x.stands("P16.3: behind Wipe", "c7 b6", "a5")
	x.wipe()
	x.crash(1, 0, 1, 1, 1, 1)
	x.stands("P16.5: wiped, behind a crash", "", "")
	x.sets(sized("a", 60))
	x.again(1, 0)
	x.stands("P16.1: behind a clean end", "a65", "")
	x.wipe()
	x.again(1, 0)
	x.stands("P16.5: wiped, behind a clean end", "", "")
	x.crash(1, 0)
	x.stands("P16.5: wiped, behind all", "", "")
}

func TestWipeWithAnError(t *testing.T) {
	for step := 1; step <= 2; step++ {
		for pick := range byte(3) {
			x := three(t)
			x.arm(step)
			if e := x.wipe(); e != api.EOFF {
				t.Errorf("P16.3: Wipe, cut at %d: %d", step, e)
			}
			x.stands("P16.3: Wipe that is cut", "c3 b2", "")
			x.tells("c", 0, 3, api.OK)
			x.crash(1, 0, pick)
		}
	}
	x := wornBlock(t, sized("k", 1050))
	x.quiet("P16.3: EWORN", func() {
		if e := x.wipe(); e != api.EWORN {
			t.Errorf("P16.3: Wipe: %d", e)
		}
	})
	x.stands("P16.3: EWORN of Wipe", "k66* c68", "k66 b67")
}

// A journal that is full: a Set or Delete of one key wipes the device, and memory is as it was.
func TestAFullJournal(t *testing.T) {
	for _, byDelete := range []bool{false, true} {
		g := shape(1, 1, 2, 24)
		x := beginOn(t, device(t, engine.Pages(g)), g, 1)
		x.sets(sized("a", 1050), sized("b", 1050), sized("c", 1050), sized("d", 1050))
		x.stands("P16.2: ahead", "d4 c3", "a1 b2")
		x.deletes("nobody", 0, false, api.OK)
		x.deletes("a", 0, true, api.OK)
		x.stands("P10.4: the journal is full", "d4 c3", "b2")
		memory := "d4 c3"
		if byDelete {
			x.deletes("a", 0, false, api.OK)
		} else {
			x.sets(sized("a", 1050))
			memory = "a5 d4"
		}
		if m := outs(x.s.Memory()); m != memory || strings.Contains(names(x.s.Device()), "b2") {
			t.Errorf("P16.3: behind it: %s; %s", m, names(x.s.Device()))
		}
		x.tells("b", 0, 0, api.OK)
		x.crash(1, 0, 1, 1, 1, 1)
		x.tells("b", 0, 0, api.OK)
	}
}
