package hybrid

import (
	"fmt"
	"math"
	"strings"
	"testing"

	"cellaret/api"
	"cellaret/engine"
	"cellaret/flash"
)

// three makes a store with two items in a memory of one page, and one on the device.
func three(t *testing.T) *pair {
	t.Helper()
	x := begin(t, 1)
	x.sets(sized("a", 1050), sized("b", 1050), sized("c", 1050))
	x.stands("P16.2: what memory lets go", "c3 b2", "a1")
	return x
}

// quiet holds that a call writes and flushes nothing.
func (x *pair) quiet(what string, f func()) {
	x.t.Helper()
	ahead := x.d.Stat()
	f()
	if now := x.d.Stat(); now.Writes != ahead.Writes || now.Flushes != ahead.Flushes {
		x.t.Errorf("%s: the device is written: %+v, ahead %+v", what, now, ahead)
	}
}

func TestGetInMemory(t *testing.T) {
	x := begin(t, 2)
	y := api.Item{Key: "k\x00é", Value: "v\r\n\xff", Flags: math.MaxUint32, Exp: 50}
	x.set(y, 0)
	y.Version = 1
	reads := x.d.Stat().Reads
	for range 3 {
		if got, ok, e := x.s.Get(y.Key, 49); got != y || !ok || e != api.OK {
			t.Errorf("P16.2: Get: %+v, %t, %d", got, ok, e)
		}
	}
	if x.d.Stat().Reads != reads {
		t.Errorf("P16.2: Get of one in memory reads the device")
	}
}

// One that was told is used: it is spared once when memory lets go.
func TestGetIsAUse(t *testing.T) {
	for _, used := range []bool{false, true} {
		x := begin(t, 2)
		x.sets(sized("a", 1050), sized("b", 1050), sized("c", 1050), sized("d", 1050))
		memory, device := "e5 d4 c3 b2", "a1"
		if used {
			x.tells("a", 0, 1, api.OK)
			memory, device = "e5 a1 d4 c3", "b2"
		}
		x.sets(sized("e", 1050))
		x.stands("P16.2: let go", memory, device)
	}
}

func TestGetOnTheDevice(t *testing.T) {
	x := three(t)
	x.tells("a", 0, 1, api.OK)
	x.stands("P16.2: moved up, and b is spilt", "a1* c3", "a1 b2")
	x.tells("b", 0, 2, api.OK)
	x.stands("P16.2: moved up, and c is spilt", "b2* a1*", "a1 b2 c3")
	// both of memory are Clean now: what is let go for c is not written
	x.quiet("P16.2: a Clean one is let go", func() { x.tells("c", 0, 3, api.OK) })
	x.stands("P16.2: moved up, and nothing is spilt", "c3* b2*", "a1 b2 c3")
	x.sets(sized("d", 1050))
	x.stands("P16.2: a Clean one is let go for a new one", "d4 c3*", "a1 b2 c3")
	// small ones
	x = begin(t, 1)
	for k := range 66 {
		x.sets(sized(fmt.Sprint("s", k), 60))
	}
	if x.s.Lost() != 0 || len(x.s.Memory()) != 64 || names(x.s.Device()) != "s12 s01" && names(x.s.Device()) != "s01 s12" {
		t.Errorf("P16.2: %d in memory; device %s", len(x.s.Memory()), names(x.s.Device()))
	}
	x.tells("s0", 0, 1, api.OK)
	if m := outs(x.s.Memory()); !strings.HasPrefix(m, "s01* ") || strings.Contains(m, "s23 ") {
		t.Errorf("P16.2: moved up: %s", m)
	}
}

func TestGetOfNone(t *testing.T) {
	x := three(t)
	x.quiet("P16.2: Get of none", func() {
		for _, key := range []string{"", "nobody", "A", "a ", "\x00", strings.Repeat("a", 250), strings.Repeat("a", 251), strings.Repeat("a", 70000)} {
			for _, now := range []int64{math.MinInt64, -1, 0, 1, math.MaxInt64} {
				x.tells(key, now, 0, api.OK)
			}
		}
	})
	x.stands("P16.2: Get of none", "c3 b2", "a1")
}

// Dead in memory alone: gone from there; with nothing on the device nothing is written.
func TestGetOfOneThatIsDeadInMemory(t *testing.T) {
	for _, c := range []struct{ exp, at int64 }{{50, 50}, {50, 51}, {50, math.MaxInt64}, {1, 1}, {-7, -7}, {-7, 0}, {math.MinInt64, math.MinInt64}, {math.MaxInt64, math.MaxInt64}} {
		x := begin(t, 1)
		x.sets(timed("d", 60, c.exp), sized("e", 60))
		if c.exp > math.MinInt64 {
			x.tells("d", c.exp-1, 1, api.OK)
		}
		x.quiet("P16.2: dead in memory alone", func() { x.tells("d", c.at, 0, api.OK) })
		x.stands("P16.2: dead in memory", "e2", "")
		x.tells("d", math.MinInt64, 0, api.OK)
	}
	x := begin(t, 1)
	x.sets(timed("d", 60, 0))
	for _, now := range []int64{math.MinInt64, -1, 0, 1, math.MaxInt64} {
		x.tells("d", now, 1, api.OK)
	}
}

// Dead in memory, and the device has it too: it is removed from there, so that no earlier time brings it back.
func TestGetOfOneThatIsDeadInBoth(t *testing.T) {
	for _, size := range []int{60, 400, 1050} {
		x := bothHave(t, timed("d", size, 50))
		x.tells("d", 49, 1, api.OK)
		flushes := x.d.Stat().Flushes
		x.tells("d", 50, 0, api.OK)
		if strings.Contains(outs(x.s.Memory()), "d1") || strings.Contains(names(x.s.Device()), "d1") || x.d.Stat().Flushes != flushes+1 {
			t.Errorf("P16.2: dead in both: %s; %s", outs(x.s.Memory()), names(x.s.Device()))
		}
		x.tells("d", 49, 0, api.OK)
		x.crash(1, 49, 1, 1, 1, 1, 1, 1)
		x.tells("d", 49, 0, api.OK)
	}
}

// bothHave makes a store in which memory and the device have an item, of version 1.
func bothHave(t *testing.T, y api.Item) *pair {
	t.Helper()
	x := begin(t, 1)
	x.sets(y)
	x.sets(sized("x", 1050), sized("y", 1050), sized("z", 1050))
	x.tells(y.Key, math.MinInt64+1, 1, api.OK)
	if m, l := " "+outs(x.s.Memory())+" ", " "+names(x.s.Device())+" "; !strings.Contains(m, " "+y.Key+"1* ") || !strings.Contains(l, " "+y.Key+"1 ") {
		t.Fatalf("P16.2: both should have %s: %s; %s", y.Key, m, l)
	}
	return x
}

// Dead on the device alone: none, and nothing is done.
func TestGetOfOneThatIsDeadOnTheDevice(t *testing.T) {
	x := begin(t, 1)
	x.sets(timed("a", 1050, 50), sized("b", 1050), sized("c", 1050))
	x.quiet("P16.2: dead on the device", func() {
		x.tells("a", 50, 0, api.OK)
		x.tells("a", math.MaxInt64, 0, api.OK)
	})
	x.stands("P16.2: dead on the device", "c3 b2", "a1")
	x.tells("a", 49, 1, api.OK)
	x.stands("P16.2: not dead on the device", "a1* c3", "a1 b2")
}

// The error of the removal is told: the item is gone from memory all the same.
func TestGetOfADeadOneWhoseRemovalIsCut(t *testing.T) {
	for step := 1; step <= 2; step++ {
		for pick := range byte(3) {
			x := bothHave(t, timed("d", 1050, 50))
			x.both(func(d *flash.Dev) { d.Flush() })
			x.arm(step)
			x.tells("d", 50, 0, api.EOFF)
			if strings.Contains(outs(x.s.Memory()), "d1") {
				t.Errorf("P16.2: dead in memory, and there: %s", outs(x.s.Memory()))
			}
			x.crash(1, 50, pick)
			x.tells("d", 50, 0, api.OK)
		}
	}
	// an error that is no EOFF
	x := wornBlock(t, timed("d", 1050, 50))
	x.tells("d", 50, 0, api.EWORN)
	if m := outs(x.s.Memory()); strings.Contains(m, "d") {
		t.Errorf("P16.2: dead in memory, and there: %s", m)
	}
}

// wornBlock makes a store that can't store a block any more, whose journal is full, and in which memory and
// the device have an item: so Remove and Wipe of engine are EWORN, and the power stays.
func wornBlock(t *testing.T, y api.Item) *pair {
	t.Helper()
	g := shape(1, 2, 4, 8)
	x := beginOn(t, numbered(t, g, blockAt(most-2)), g, 1)
	x.sets(sized("a", 1050), y, sized("b", 1050), sized("c", 1050)) // with the first one versions are reserved: Seq is the greatest
	x.deletes("a", 0, true, api.OK)
	x.tells(y.Key, math.MinInt64+1, x.b.last[y.Key].Version, api.OK)
	x.stands("P16.2: both have it", y.Key+"66* c68", y.Key+"66 b67")
	return x
}

// Spilt is what is not dead at the time of the call.
func TestSpillAtItsTime(t *testing.T) {
	for _, c := range []struct {
		exp, now int64
		spilt    bool
	}{{50, 49, true}, {50, 50, false}, {50, 51, false}, {0, math.MaxInt64, true}, {-3, -4, true}, {-3, -3, false}, {math.MaxInt64, math.MaxInt64, false}, {math.MaxInt64, math.MaxInt64 - 1, true}} {
		for _, byGet := range []bool{false, true} {
			x := begin(t, 1)
			x.sets(sized("a", 1050), timed("b", 1050, c.exp), sized("c", 1050))
			want := "a1"
			if c.spilt {
				want = "a1 b2"
			}
			call := func() {
				if byGet {
					x.get("a", c.now)
				} else {
					x.set(sized("d", 1050), c.now)
				}
			}
			if c.spilt {
				call()
			} else {
				x.quiet("P16.2: a dead one is let go", call)
			}
			if l := names(x.s.Device()); l != want || x.s.Lost() != 0 {
				t.Errorf("P16.2: Exp %d at %d: device %s, Lost %d", c.exp, c.now, l, x.s.Lost())
			}
		}
	}
}

// Of several that are let go each is tried, in order; those that engine refuses are lost.
func TestSpillOfSeveral(t *testing.T) {
	sizes := []int{500, 500, 500, 400, 470, 300, 260, 257}
	x := beginOn(t, wornLog(t, little()), little(), 1)
	for k, size := range sizes {
		x.sets(sized(string(rune('a'+k)), size))
	}
	if v, e := x.set(sized("z", 1050), 0); v != 9 || e != api.OK || x.s.Lost() != 5 {
		t.Errorf("P16.2: Set with a log that is worn: %d, %d, Lost %d", v, e, x.s.Lost())
	}
	x.stands("P16.2: a log that is worn", "z9", "a1 b2 d4")
	x.sets(sized("y", 1050), sized("x", 1050))
	if x.s.Lost() != 6 {
		t.Errorf("P16.2: Lost: %d", x.s.Lost())
	}
	x.tells("z", 0, 0, api.OK)
	// the same with the power gone at the first Seal: what the log has room for is put all the same
	for step := 1; step <= 5; step++ {
		x = begin(t, 1)
		for k, size := range sizes {
			x.sets(sized(string(rune('a'+k)), size))
		}
		x.arm(step)
		x.refuses(sized("z", 1050), 0, api.EOFF)
		x.stands("P16.3: x is kept all the same", "z9", "")
		if x.s.Lost() != 5 {
			t.Errorf("P16.2: cut at %d: Lost: %d", step, x.s.Lost())
		}
		x.crash(1, 0)
		x.stands("P16.5: behind it", "", "")
	}
}

// Of several small ones: each is a write of its own, and those behind the cut are lost.
func TestSpillOfSmallOnesThatIsCut(t *testing.T) {
	fill := func() *pair {
		x := beginOn(t, device(t, engine.Pages(shape(4, 64, 2, 8))), shape(4, 64, 2, 8), 1)
		for k := range 64 {
			x.sets(sized(fmt.Sprint("s", k), 60))
		}
		return x
	}
	x := fill()
	ahead := x.d.Stat()
	x.sets(sized("z", 1050))
	steps := x.d.Stat().Writes + x.d.Stat().Flushes - ahead.Writes - ahead.Flushes
	if steps < 64 || x.s.Lost() != 0 {
		t.Fatalf("P16.2: %d steps, Lost %d", steps, x.s.Lost())
	}
	for _, step := range []int{3, 4, 20, steps - 1, steps} { // with the first two versions are reserved
		x := fill()
		x.arm(step)
		x.refuses(sized("z", 1050), 0, api.EOFF)
		if lost := x.s.Lost(); lost < 1 || step == 3 && lost != 64 || step == steps && lost != 1 || outs(x.s.Memory()) != "z65" {
			t.Errorf("P16.2: cut at %d: Lost %d; %s", step, lost, outs(x.s.Memory()))
		}
	}
}

// An error of the Spill is told alone; what was moved up stands in memory. Any other error than EOFF is none.
func TestGetWhoseSpillHasAnError(t *testing.T) {
	for step := 1; step <= 5; step++ {
		x := three(t)
		x.arm(step) // b has no room in the open region
		x.tells("a", 0, 0, api.EOFF)
		x.stands("P16.2: moved up all the same", "a1* c3", "")
		if x.s.Lost() != 1 {
			t.Errorf("P16.2: Lost: %d", x.s.Lost())
		}
		x.tells("a", 0, 1, api.OK)
	}
	x := beginOn(t, wornLog(t, little()), little(), 1)
	x.sets(sized("a", 1050), sized("b", 1050), sized("c", 1050))
	x.tells("a", 0, 1, api.OK)
	x.stands("P16.2: moved up, and b is lost", "a1* c3", "a1")
	if x.s.Lost() != 1 {
		t.Errorf("P16.2: Lost: %d", x.s.Lost())
	}
	x.tells("b", 0, 0, api.OK)
}

// Memory is asked first: what the device has of the key is not read.
func TestGetOfOneInBoth(t *testing.T) {
	for _, size := range []int{60, 1050} {
		x := bothHave(t, sized("d", size))
		reads := x.d.Stat().Reads
		if _, ok, _ := x.s.Get("d", 0); !ok || x.d.Stat().Reads != reads {
			t.Errorf("P16.2: Get of one in both: %t, %d pages are read", ok, x.d.Stat().Reads-reads)
		}
		if _, ok := x.p.m.Get("d", 0); !ok { // the same use on the other side
			t.Errorf("P14.2: not there")
		}
		x.same("P16.2: Get of one in both")
	}
}

// The device lets small ones go for others of their bucket: those are none.
func TestGetOfWhatTheDeviceLeftOut(t *testing.T) {
	x := begin(t, 1)
	for k := range 200 {
		x.sets(sized(fmt.Sprint("s", k), 64))
	}
	told := 0
	for k := range 200 {
		if _, ok, e := x.get(fmt.Sprint("s", k), 0); ok && e == api.OK {
			told++
		}
	}
	if told < 64 || told > 64+2*6 {
		t.Errorf("P16.2: %d of 200 are told", told)
	}
}
