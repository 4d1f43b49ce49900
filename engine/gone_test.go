package engine

import (
	"bytes"
	"encoding/binary"
	"fmt"
	"slices"
	"testing"

	"cellaret/api"
	"cellaret/flash"
	"cellaret/super"
	"cellaret/tomb"
)

// told lets an engine tell so many versions.
func (x *pair) told(n int) {
	x.t.Helper()
	for range n {
		x.version("told")
	}
}

// marksOn reads the marks of a journal's page, one by one.
func marksOn(t *testing.T, d *flash.Dev, page int) []tomb.Mark {
	t.Helper()
	b, e := d.Read(page)
	if e != api.OK {
		t.Fatalf("P10.4: the journal's page %d: %d", page, e)
	}
	l := make([]tomb.Mark, binary.LittleEndian.Uint32(b[4:]))
	for k := range l {
		l[k] = tomb.Mark{Key: binary.LittleEndian.Uint64(b[16+16*k:]), Version: binary.LittleEndian.Uint64(b[24+16*k:])}
	}
	return l
}

func marked(version uint64, keys ...string) []tomb.Mark {
	var l []tomb.Mark
	for _, key := range keys {
		l = append(l, tomb.Mark{Key: hash(key), Version: version})
	}
	return l
}

func TestRemove(t *testing.T) {
	x := begin(t, little())
	x.told(5)
	for v := uint64(1); v <= 9; v++ {
		x.put("ahead", sized(fmt.Sprint("s", v), 36, v))
		x.put("ahead", sized(fmt.Sprint("g", v), 150, v))
	}
	for _, keys := range [][]string{nil, {}, {"nobody"}, {"nobody", "nothing", "nobody"}, {"", "nobody"}} {
		ahead := x.d.Copy()
		if e := x.remove("nobody", keys...); e != api.OK || differ(x.d, ahead) {
			t.Errorf("P10.4: Remove(%q): %d, or the device is changed", keys, e)
		}
	}
	// each once, in order, and none of those that May says no of
	if e := x.remove("some", "s4", "nobody", "g5", "s6", "s4", "g6", "nobody", "g5", "s5"); e != api.OK {
		t.Errorf("P10.4: Remove: %d", e)
	}
	if l := marksOn(t, x.d, 2); !slices.Equal(l, marked(5, "s4", "g5", "s6", "g6", "s5")) {
		t.Errorf("P10.4: the marks of Remove: %v", l)
	}
	if _, e := x.d.Read(3); e != api.ENONE || len(x.d.Waiting()) > 0 {
		t.Errorf("P10.4: Remove of five: another page is written (%d), or %v wait", e, x.d.Waiting())
	}
	// a version above the last one is not gone
	for key, there := range map[string]bool{"s4": false, "s5": false, "s6": true, "g5": false, "g6": true, "s3": true, "g3": true, "s9": true} {
		if _, e := x.e.Get(key); (e == api.OK) != there {
			t.Errorf("P10.4: Get(%s) behind Remove: %d", key, e)
		}
	}
	x.holds("Remove", "s4", "s5", "g5")
	x.remove("one twice", "s4")
	x.remove("one twice", "s4")
	if l := marksOn(t, x.d, 4); !slices.Equal(l, marked(5, "s4")) {
		t.Errorf("P10.4: Remove of one that is removed: %v", l)
	}
	x.settle("Remove")
	x.crash("Remove")
	for _, key := range []string{"s4", "s5", "g5"} {
		if y, e := x.e.Get(key); e != api.ENONE {
			t.Errorf("P10.5: %s is back: %v, %d", key, y, e)
		}
	}
}

// Which version a mark has: 0 on a new device, Reserved as Open found it, then what Version told last.
func TestRemoveBeforeAndBehindTheFirstVersion(t *testing.T) {
	x := begin(t, Geometry{Journal: 9, Buckets: 2, Regions: 2})
	x.put("ahead", sized("a", 60, 1))
	x.put("ahead", sized("g", 600, 64))
	x.put("ahead", sized("h", 600, 65))
	last := func(page int, want uint64, told string) {
		t.Helper()
		x.remove("which version", "a", "g", "h")
		if l := marksOn(t, x.d, page); !slices.Equal(l, marked(want, "a", "g", "h")) {
			t.Errorf("P10.4: the marks: %v, want %d", l, want)
		}
		if got := names(x.e.Items()); got != told {
			t.Errorf("P10.4: told behind the marks of %d: %q, want %q", want, got, told)
		}
	}
	last(2, 0, "a1 g64 h65")
	x.told(1)
	last(3, 1, "g64 h65")
	x.told(2)
	last(4, 3, "g64 h65")
	x.settle("which version")
	x.open("which version")
	last(5, 64, "h65")
	x.told(1)
	last(6, 65, "")
	x.set("which version", super.Block{Reserved: 7})
	last(7, 65, "")
}

// 23 marks a page: so many pages are written, one behind the other.
func TestRemoveOfMany(t *testing.T) {
	for _, n := range []int{1, 2, 22, 23, 24, 45, 46, 47, 69, 70, 92, 93, 200} {
		g := Geometry{Journal: 4, Buckets: 64, Regions: 1}
		x := begin(t, g)
		x.told(1)
		var keys []string
		for i := range n {
			keys = append(keys, fmt.Sprint("key", i))
			y := sized(keys[i], 40, 1)
			x.e.Put(y)
			x.p.put(y)
		}
		x.put("it stays", sized("young", 400, 2))
		writes, flushes := x.d.Stat().Writes, x.d.Stat().Flushes
		if e := x.remove("many", keys...); e != api.OK || len(keysIn(x.e.Items())) != 1 {
			t.Errorf("P10.4: Remove of %d: %d; %v", n, e, keysIn(x.e.Items()))
		}
		pages := (n + 22) / 23
		full := pages > 4
		steps := pages
		if full {
			steps = 5 // four pages, then the block
		}
		if s := x.d.Stat(); s.Writes != writes+steps || s.Flushes != flushes+steps {
			t.Errorf("P10.4: Remove of %d: %d pages are written, want %d", n, s.Writes-writes, steps)
		}
		if b := x.e.Block(); full && (b.Gen != 1 || b.Horizon != 1) || !full && (b.Gen != 0 || b.Horizon != 0) {
			t.Errorf("P10.4: Remove of %d: %+v", n, b)
		}
		for at := range min(pages, 4) {
			if l := marksOn(t, x.d, 2+at); !slices.Equal(l, marked(1, keys[23*at:min(23*at+23, n)]...)) {
				t.Errorf("P10.4: Remove of %d: page %d: %v", n, at, l)
			}
		}
		x.holds("many", keys...)
		x.crash("many")
		if l := x.e.Items(); len(l) > 0 { // the young one was not sealed
			t.Errorf("P10.5: Remove of %d: %s are back", n, short(l...))
		}
	}
}

// A full journal: all that is there up to the last version is wiped, not the keys alone.
func TestRemoveWhereTheJournalIsFull(t *testing.T) {
	for journal := 1; journal <= 4; journal++ {
		x := begin(t, Geometry{Journal: journal, Buckets: 4, Regions: 2})
		x.told(5)
		for v := uint64(4); v <= 6; v++ {
			x.put("ahead", sized(fmt.Sprint("s", v), 60, v))
			x.put("ahead", sized(fmt.Sprint("g", v), 200, v))
		}
		for range journal {
			x.remove("it has room", "s4")
		}
		if x.e.Block().Gen != 0 {
			t.Errorf("P10.4: %d pages: %+v", journal, x.e.Block())
		}
		if e := x.remove("nobody, and no room", "nobody"); e != api.OK || x.e.Block().Gen != 0 {
			t.Errorf("P10.4: Remove of nobody where the journal is full: %d, %+v", e, x.e.Block())
		}
		if e := x.remove("no room", "g4"); e != api.OK || x.e.Block().Gen != 1 || x.e.Block().Horizon != 5 {
			t.Errorf("P10.4: %d pages, all used: %d, %+v", journal, e, x.e.Block())
		}
		if got := names(x.e.Items()); got != "s66 g66" {
			t.Errorf("P10.4: what is left: %s", got)
		}
		// the journal has room again, of the new generation
		x.remove("a new generation", "s6")
		if j, _ := tomb.Open(x.d, 2, journal, 1); j.Room() != journal-1 || !j.Gone(hash("s6"), 5) {
			t.Errorf("P10.4: the new generation: %d pages left, %v", j.Room(), j.Marks())
		}
		x.settle("a new generation")
		x.crash("a new generation")
		if got := names(x.e.Items()); got != "s66 g66" {
			t.Errorf("P10.5: what is left behind a crash: %s", got)
		}
	}
}

// The journal is full, and the store of the block fails: Remove tells its error.
func TestRemoveWhereTheWipeFails(t *testing.T) {
	full := func() *pair {
		x := begin(t, Geometry{Journal: 1, Buckets: 1, Regions: 1})
		x.told(5)
		x.put("ahead", sized("a", 60, 5))
		x.put("ahead", sized("b", 60, 4))
		x.remove("ahead", "a")
		return x
	}
	for step := 1; step <= 3; step++ {
		for pick := range 3 {
			x := full()
			x.both(func(d *flash.Dev) { d.Arm(step) })
			e := x.remove("cut", "b")
			if step <= 2 && e != api.EOFF || step == 3 && e != api.OK {
				t.Errorf("P10.4: Remove whose Wipe is cut at %d: %d", step, e)
			}
			x.crash("cut", byte(pick))
		}
	}
	x := full()
	x.both(func(d *flash.Dev) { d.Write(1, super.Encode(super.Block{Seq: most})); d.Flush() })
	if e := x.remove("worn", "b"); e != api.EWORN || x.e.Block().Gen != 0 {
		t.Errorf("P10.4: Remove whose Wipe is EWORN: %d", e)
	}
	if got := names(x.e.Items()); got != "b4" {
		t.Errorf("P10.4: what is left: %s", got)
	}
	x.holds("worn")
}

// A key that was removed may be put anew, with a greater version; with an elder one it stays gone.
func TestPutBehindRemove(t *testing.T) {
	for _, size := range []int{60, 600} {
		x := begin(t, little())
		x.told(5)
		x.put("ahead", sized("a", 60, 3))
		x.remove("ahead", "a")
		for _, v := range []uint64{1, 3, 5} {
			if x.put("elder", sized("a", size, v)); !x.e.May("a") {
				t.Errorf("P10.3: May behind Put")
			}
			if y, e := x.e.Get("a"); e != api.ENONE {
				t.Errorf("P10.4: the version %d behind a mark of 5: %v, %d", v, y, e)
			}
		}
		x.put("younger", sized("a", size, 6))
		if y, e := x.e.Get("a"); y != sized("a", size, 6) || e != api.OK {
			t.Errorf("P10.3: the version 6 behind a mark of 5: %v, %d", y, e)
		}
		x.settle("younger")
		x.crash("younger")
		if y, e := x.e.Get("a"); y.Version != 6 || e != api.OK {
			t.Errorf("P10.4: the version 6 behind a crash: %v, %d", y, e)
		}
	}
}

func TestWipe(t *testing.T) {
	x := begin(t, little())
	if e := x.wipe("a new one"); e != api.OK || x.e.Block() != (super.Block{Seq: 2, Epoch: 1, Gen: 1}) {
		t.Errorf("P10.4: Wipe of a new one: %d, %+v", e, x.e.Block())
	}
	x.told(9)
	for v := uint64(8); v <= 11; v++ {
		x.put("ahead", sized(fmt.Sprint("s", v), 60, v))
		x.put("ahead", sized(fmt.Sprint("g", v), 300, v))
	}
	x.remove("ahead", "s11", "g11")
	b := x.e.Block()
	b.Clean, b.Image = true, 5
	x.set("ahead", b)
	if e := x.wipe("items"); e != api.OK || x.e.Block() != (super.Block{Seq: 5, Epoch: 1, Reserved: 64, Horizon: 9, Gen: 2, Clean: true, Image: 5}) {
		t.Errorf("P10.4: Wipe: %d, %+v", e, x.e.Block())
	}
	if l := x.e.Items(); len(l) != 4 || l[3].Key != "g11" {
		t.Errorf("P10.4: what is above the last version stays: %s", names(l))
	}
	x.holds("Wipe", "s8", "g8", "s9", "g9")
	x.settle("Wipe")
	x.crash("Wipe")
	if l := x.e.Items(); len(l) != 4 {
		t.Errorf("P10.4: behind Wipe and a crash: %s", names(l))
	}
	if e := x.wipe("opened anew"); e != api.OK || x.e.Block().Horizon != 64 || x.e.Block().Gen != 3 || len(x.e.Items()) > 0 {
		t.Errorf("P10.4: Wipe ahead of the first Version: %d, %+v", e, x.e.Block())
	}
	// Gen one more is modulo 2^64
	b = x.e.Block()
	b.Gen = most
	x.set("the greatest Gen", b)
	if e := x.wipe("the greatest Gen"); e != api.OK || x.e.Block().Gen != 0 {
		t.Errorf("P10.4: Wipe behind the greatest Gen: %d, %+v", e, x.e.Block())
	}
}

func TestWipeFails(t *testing.T) {
	for step := 1; step <= 3; step++ {
		for pick := range 3 {
			x := begin(t, little())
			x.told(5)
			x.put("ahead", sized("a", 60, 5))
			x.put("ahead", sized("g", 600, 5))
			x.put("ahead", sized("young", 600, 6))
			x.remove("ahead", "a")
			x.settle("ahead")
			ahead := x.e.Block()
			x.both(func(d *flash.Dev) { d.Arm(step) })
			e := x.wipe("cut")
			if step <= 2 && (e != api.EOFF || x.e.Block() != ahead) || step == 3 && e != api.OK {
				t.Errorf("P10.4: Wipe that is cut at %d: %d, %+v", step, e, x.e.Block())
			}
			x.crash("cut", byte(pick))
			want := "g5 young6"
			if step == 3 || step == 2 && pick == 1 {
				want = "young6"
			}
			if got := names(x.e.Items()); got != want {
				t.Errorf("P10.5: Wipe that is cut at %d, pick %d: %s, want %s", step, pick, got, want)
			}
		}
	}
}

// Settle seals the open region, and flushes what waits: all of it is there behind a crash.
func TestSettle(t *testing.T) {
	x := begin(t, little())
	flushes := x.d.Stat().Flushes
	if e := x.settle("nothing"); e != api.OK || x.d.Stat().Flushes != flushes+1 {
		t.Errorf("P10.4: Settle of nothing: %d, %+v", e, x.d.Stat())
	}
	x.put("ahead", sized("a", 60, 1))
	if e := x.settle("a small one"); e != api.OK || len(x.d.Waiting()) > 0 || x.d.Stat().Flushes != flushes+2 {
		t.Errorf("P10.4: Settle of a small one: %d, %v wait", e, x.d.Waiting())
	}
	x.put("ahead", sized("b", 60, 2))
	x.put("ahead", sized("g", 600, 3))
	writes := x.d.Stat().Writes
	if e := x.settle("both"); e != api.OK || len(x.d.Waiting()) > 0 || x.d.Stat().Flushes != flushes+4 || x.d.Stat().Writes != writes+4 {
		t.Errorf("P10.4: Settle of both: %d, %v wait, %+v", e, x.d.Waiting(), x.d.Stat())
	}
	want := x.e.Items()
	x.crash("settled", 0, 2, 2, 2)
	if l := x.e.Items(); !slices.Equal(l, want) || len(l) != 3 {
		t.Errorf("P10.4: what was settled, behind a crash: %s", names(l))
	}
}

// Steps of Settle: four pages and a flush of the Seal, then a flush.
func TestSettleThatIsCut(t *testing.T) {
	for _, great := range []int{0, 1, 2} {
		for step := 1; step <= 7; step++ {
			x := begin(t, little())
			x.put("ahead", sized("a", 60, 1))
			for n := range great {
				x.put("ahead", sized(fmt.Sprint("g", n), 600, 2))
			}
			x.both(func(d *flash.Dev) { d.Arm(step) })
			steps := 1
			if great > 0 {
				steps = 6
			}
			if e := x.settle("cut"); step <= steps && e != api.EOFF || step > steps && e != api.OK {
				t.Errorf("P10.4: Settle that is cut at %d of %d: %d", step, steps, e)
			}
			x.holds("cut")
			if e := x.settle("cut"); step <= steps && e != api.EOFF {
				t.Errorf("P10.4: Settle of one that is done: %d", e)
			}
		}
	}
}

// losses are the ways in which a device's power may go behind an engine's back.
func losses() map[string]func(d *flash.Dev) {
	return map[string]func(d *flash.Dev){
		"Crash":                func(d *flash.Dev) { d.Crash(nil) },
		"Crash with picks":     func(d *flash.Dev) { d.Crash([]byte{2, 1}) },
		"Crash and On":         func(d *flash.Dev) { d.Crash(nil); d.On() },
		"On":                   func(d *flash.Dev) { d.On() },
		"Write that is cut":    func(d *flash.Dev) { d.Arm(1); d.Write(0, nil) },
		"Flush that is cut":    func(d *flash.Dev) { d.Arm(1); d.Flush() },
		"Flush cut, and On":    func(d *flash.Dev) { d.Arm(1); d.Flush(); d.On() },
		"On, and about to go":  func(d *flash.Dev) { d.On(); d.Arm(1) },
		"On, and others write": func(d *flash.Dev) { d.On(); d.Write(5, []byte{1}); d.Erase(6); d.Flush() },
	}
}

// An engine is done with any loss of its device: what would touch it is EOFF, and nothing of it is done;
// what is answered out of memory is answered as before.
func TestDone(t *testing.T) {
	for name, loss := range losses() {
		x := begin(t, little())
		x.told(5)
		x.put("ahead", sized("a", 60, 1))
		x.put("ahead", sized("g", 600, 2))
		x.settle("ahead")
		x.put("ahead", sized("b", 60, 3))
		x.put("ahead", sized("h", 600, 4))
		x.remove("ahead", "g")
		block := x.e.Block()
		x.both(loss)
		ahead := x.d.Copy()
		for i, e := range []api.Errno{
			x.set(name, super.Block{}), x.wipe(name), x.settle(name),
			x.remove(name, "a"), x.remove(name, "nobody", "h"), x.remove(name, "g"),
			x.put(name, sized("a", 60, 9)), x.put(name, sized("new", 60, 9)), x.put(name, sized("h", 60, 9)),
			x.put(name, sized("a", 600, 9)),  // the bucket would be read, to drop it
			x.put(name, sized("i", 1000, 9)), // the log would be sealed
		} {
			if e != api.EOFF {
				t.Errorf("P10: done by %s: number %d: %d", name, i, e)
			}
		}
		for _, key := range []string{"a", "b"} {
			if y, e := x.e.Get(key); y != (api.Item{}) || e != api.EOFF {
				t.Errorf("P10.3: done by %s: Get(%s): %v, %d", name, key, y, e)
			}
		}
		if l := x.e.Items(); len(l) > 0 {
			t.Errorf("P10.3: done by %s: Items: %v", name, l)
		}
		if differ(x.d, ahead) {
			t.Errorf("P10: done by %s: the device is changed", name)
		}
		// out of memory
		if x.e.Block() != block || !x.e.May("a") || !x.e.May("h") || x.e.May("nobody") {
			t.Errorf("P10: done by %s: Block %+v, May %t, %t, %t", name, x.e.Block(), x.e.May("a"), x.e.May("h"), x.e.May("nobody"))
		}
		if e := x.remove(name); e != api.OK {
			t.Errorf("P10.4: done by %s: Remove of no key: %d", name, e)
		}
		if e := x.remove(name, "nobody"); e != api.OK {
			t.Errorf("P10.4: done by %s: Remove of nobody: %d", name, e)
		}
		if y, e := x.e.Get("h"); y != sized("h", 600, 4) || e != api.OK {
			t.Errorf("P10.3: done by %s: Get of what the log has in memory: %v, %d", name, y, e)
		}
		if y, e := x.e.Get("g"); y != (api.Item{}) || e != api.ENONE {
			t.Errorf("P10.3: done by %s: Get of what was removed: %v, %d", name, y, e)
		}
		if v, e := x.version(name); v != 6 || e != api.OK {
			t.Errorf("P10.2: done by %s: Version: %d, %d", name, v, e)
		}
		if e := x.put(name, sized("i", 872, 9)); e != api.OK { // a Put that was refused took no room
			t.Errorf("P10.3: done by %s: Put to the log, with room: %d", name, e)
		}
		x.holds(name, "a", "b", "g", "h", "i")
		if differ(x.d, ahead) {
			t.Errorf("P10: done by %s: the device is changed by what is answered out of memory", name)
		}
		x.refuses(name)
		// another one on the same device does not bring it back
		x.d.On()
		if n, _, e := Open(x.d, little()); e != api.OK || n.Put(sized("z", 60, 90)) != api.OK || x.e.Wipe() != api.EOFF || x.e.Put(sized("a", 60, 9)) != api.EOFF {
			t.Errorf("P10: done by %s: it goes on", name)
		}
	}
}

// What a Seal that was cut off let go may be there behind the crash: it is not told to be gone, and a
// Remove of it is not OK.
func TestAdrift(t *testing.T) {
	for _, bySettle := range []bool{false, true} {
		for step := 1; step <= 5; step++ {
			for pick := range 3 {
				x := begin(t, little())
				x.told(9)
				for i := range 3 { // the next Seal takes the place of g0 and h0
					x.put("ahead", sized(fmt.Sprint("g", i), 600, uint64(i+1)))
					x.put("ahead", sized(fmt.Sprint("h", i), 600, uint64(i+4)))
				}
				x.remove("ahead", "h0")
				x.both(func(d *flash.Dev) { d.Arm(step) })
				e := api.OK
				if bySettle {
					e = x.settle("adrift")
				} else {
					e = x.put("adrift", sized("new", 600, 7))
				}
				if e != api.EOFF {
					t.Fatalf("P10: a Seal that is cut at %d: %d", step, e)
				}
				if y, e := x.e.Get("g0"); y != (api.Item{}) || e != api.EOFF || !x.e.May("g0") {
					t.Errorf("P10.5: Get of what is adrift: %v, %d", y, e)
				}
				if y, e := x.e.Get("h0"); y != (api.Item{}) || e != api.ENONE {
					t.Errorf("P10.5: Get of what is adrift, and was removed ahead: %v, %d", y, e)
				}
				if e := x.remove("adrift", "g0"); e != api.EOFF {
					t.Errorf("P10.5: Remove of what is adrift: %d", e)
				}
				x.holds("adrift", "g0", "h0")
				x.crash("adrift", byte(pick), byte(pick), byte(pick), byte(pick))
				if _, e := x.e.Get("g0"); pick == 0 && e != api.OK {
					t.Errorf("P9.2: with picks 0 the old region stays: %d", e)
				}
				if _, e := x.e.Get("h0"); e != api.ENONE {
					t.Errorf("P10.5: what was removed is back: %d", e)
				}
			}
		}
	}
}

// call is a call that may be cut off: what it does, and which keys it puts and removes.
type call struct {
	name         string
	f            func(x *pair) api.Errno
	puts, drops  []string
	wipes, quiet bool // quiet: it takes no step
}

// cutState is an engine with items in both stores, settled and not, removed, left out and lost.
func cutState(t *testing.T) *pair {
	x := begin(t, Geometry{Journal: 3, Buckets: 2, Regions: 2})
	put := func(key string, size int) {
		t.Helper()
		v, e := x.version("state")
		if f := x.put("state", sized(key, size, v)); e != api.OK || f != api.OK {
			t.Fatalf("P10.3: state: %d, %d", e, f)
		}
	}
	keys := keysOf(5, 0, 2)
	for _, key := range keys { // the first two are left out
		put(key, 110)
	}
	for i := range 7 { // two a region: the first two are lost
		put(fmt.Sprint("g", i), 700)
	}
	put("other", 60)
	x.settle("state")
	x.remove("state", keys[2], "g3")
	put("other", 70)
	put("g3", 600) // put anew behind its Remove; it stands in the open region
	put("late", 300)
	return x
}

func cutCalls() []call {
	keys := keysOf(9, 0, 2)
	version := func(x *pair) uint64 {
		x.e.last++ // ahead of the call that is cut: so that its steps are its own
		x.p.last++
		return x.p.last
	}
	put := func(key string, size int) func(x *pair) api.Errno {
		return func(x *pair) api.Errno { return x.put("cut", sized(key, size, version(x))) }
	}
	return []call{
		{name: "Put of a small one", f: put("tiny", 40), puts: []string{"tiny"}},
		{name: "Put in place of a small one", f: put("other", 80), puts: []string{"other"}},
		{name: "Put that leaves one out", f: put(keys[5], 120), puts: []string{keys[5]}},
		{name: "Put of one that was left out", f: put(keys[0], 120), puts: []string{keys[0]}},
		{name: "Put of one that was removed", f: put(keys[2], 110), puts: []string{keys[2]}},
		{name: "Put of a small one that the log has", f: put("g5", 50), puts: []string{"g5"}},
		{name: "Put of a great one with room", f: put("great", 300), puts: []string{"great"}, quiet: true},
		{name: "Put that seals", f: put("great", 1000), puts: []string{"great"}},
		{name: "Put of a great one that the bucket has", f: put("other", 300), puts: []string{"other"}},
		{name: "Put that seals, of one that the bucket has", f: put(keys[4], 1000), puts: []string{keys[4]}},
		{name: "Put of a great one that was lost", f: put("g0", 300), puts: []string{"g0"}, quiet: true},
		{name: "Remove of one", f: func(x *pair) api.Errno { return x.remove("cut", "other") }, drops: []string{"other"}},
		{name: "Remove of several", f: func(x *pair) api.Errno { return x.remove("cut", "other", keys[3], "g4", "g5", "late") }, drops: []string{"other", keys[3], "g4", "g5", "late"}},
		{name: "Remove till it is full", f: func(x *pair) api.Errno {
			for range 3 {
				if e := x.remove("cut", "g4"); e != api.OK {
					return e
				}
			}
			return api.OK
		}, drops: []string{"g4"}},
		{name: "Wipe", f: func(x *pair) api.Errno { return x.wipe("cut") }, wipes: true},
		{name: "Settle", f: func(x *pair) api.Errno { return x.settle("cut") }},
		{name: "Set", f: func(x *pair) api.Errno { b := x.p.block; b.Clean = true; return x.set("cut", b) }},
		{name: "Version", f: func(x *pair) api.Errno {
			x.e.last, x.p.last = x.p.block.Reserved, x.p.block.Reserved
			_, e := x.version("cut")
			return e
		}},
	}
}

// picksOf are all the picks of so many pages that wait.
func picksOf(n int) [][]byte {
	l := [][]byte{nil}
	for range n {
		var more [][]byte
		for _, p := range l {
			for pick := range byte(3) {
				more = append(more, append(slices.Clone(p), pick))
			}
		}
		l = more
	}
	return append(l, nil, bytes.Repeat([]byte{255}, n), bytes.Repeat([]byte{4}, n), bytes.Repeat([]byte{5}, n))
}

// The power goes at each step of each call, with all the picks; what is opened then tells nothing that was
// told to be none or was removed, and no item but such as were put.
func TestCut(t *testing.T) {
	for _, c := range cutCalls() {
		for step := 1; ; step++ {
			x := cutState(t)
			state := ledger{none: map[string]bool{}, gone: map[string]uint64{}}
			state.sees(x)
			x.both(func(d *flash.Dev) { d.Arm(step) })
			e := c.f(x)
			for _, key := range c.puts {
				delete(state.none, key)
			}
			if e == api.OK && c.wipes {
				c.drops = keysIn(append(slices.Clone(x.p.logItems()), sized("other", 60, 1)))
			}
			for _, key := range c.drops {
				if e == api.OK {
					state.gone[key] = x.p.last
				}
			}
			what := fmt.Sprintf("%s, cut at %d", c.name, step)
			x.holds(what, "other", "late", "tiny", "great")
			for _, picks := range picksOf(len(x.d.Waiting())) {
				d := x.d.Copy()
				d.Crash(picks)
				d.On()
				n := beginOn(t, what, d, x.p.g)
				n.holds(what, "other", "late", "tiny", "great")
				state.holds(t, fmt.Sprintf("%s, picks %v", what, picks), n.e, x)
			}
			if t.Failed() {
				return
			}
			if x.d.Power() {
				if e != api.OK || (step == 1) != c.quiet {
					t.Errorf("P10: %s: %d behind %d steps", c.name, e, step-1)
				}
				break
			}
			if e != api.EOFF {
				t.Errorf("P10: %s: %d", what, e)
			}
		}
	}
}

// ledger keeps what may not come back.
type ledger struct {
	none map[string]bool   // keys that Get told to be none, since they were put
	gone map[string]uint64 // the greatest version up to which a key was removed
}

// watched are the keys of cutState and of its calls.
func watched() []string {
	l := append(keysOf(9, 0, 2), "other", "late", "tiny", "great")
	for i := range 8 {
		l = append(l, fmt.Sprint("g", i))
	}
	return l
}

// sees notes which keys are none.
func (l *ledger) sees(x *pair) {
	for _, key := range watched() {
		if _, e := x.e.Get(key); e == api.ENONE {
			l.none[key] = true
		}
	}
}

// holds finds fault with what an engine tells that may not be told.
func (l *ledger) holds(t *testing.T, what string, e *Engine, x *pair) {
	t.Helper()
	for key := range l.none {
		if y, err := e.Get(key); err != api.ENONE {
			t.Errorf("P10.5: %s: %s was told to be none, and is back: %s, %d", what, key, short(y), err)
		}
	}
	for _, y := range e.Items() {
		if y.Version <= l.gone[y.Key] {
			t.Errorf("P10.5: %s: %s was removed up to %d, and is back: %s", what, y.Key, l.gone[y.Key], short(y))
		}
		if !x.ever[y] {
			t.Errorf("P10.3: %s: what nobody put is told: %s", what, short(y))
		}
	}
}

// Two Puts of one key, with no Remove between: an elder one may come back, as the chapter says; but never
// behind a Remove.
func TestAnElderOneMayComeBack(t *testing.T) {
	for _, removed := range []bool{false, true} {
		x := begin(t, little())
		v, _ := x.version("elder")
		x.put("elder", sized("a", 600, v))
		x.settle("elder")
		if removed {
			x.remove("elder", "a")
		}
		v, _ = x.version("younger")
		x.put("younger", sized("a", 60, v))
		if y, e := x.e.Get("a"); y.Version != 2 || e != api.OK {
			t.Errorf("P10.3: Get: %v, %d", y, e)
		}
		x.crash("the younger one waited")
		y, e := x.e.Get("a")
		if removed && e != api.ENONE || !removed && (y.Version != 1 || e != api.OK) {
			t.Errorf("P10.5: removed %t: Get behind a crash: %v, %d", removed, y, e)
		}
	}
}

// spoil changes a list in all its room, and behind.
func spoil(l []api.Item) {
	l = l[:cap(l)]
	for i := range l {
		l[i] = api.Item{Key: "spoilt", Value: "x", Version: 1}
	}
	_ = append(l[:0], api.Item{Key: "more", Version: 2}, api.Item{Key: "yet more", Version: 3})
}

func TestMemory(t *testing.T) {
	x := begin(t, little())
	x.told(9)
	for v := uint64(1); v <= 4; v++ {
		x.put("memory", sized(fmt.Sprint("s", v), 60, v))
		x.put("memory", sized(fmt.Sprint("g", v), 700, v))
	}
	one, two := x.e.Items(), x.e.Items()
	ahead := slices.Clone(two)
	spoil(one)
	if !slices.Equal(two, ahead) || len(two) != 8 {
		t.Errorf("R4: an answer of Items that is changed changes another")
	}
	x.holds("R4: an answer of Items that is changed")
	x.put("memory", sized("s1", 70, 9))
	x.put("memory", sized("g1", 900, 9))
	if !slices.Equal(two, ahead) {
		t.Errorf("R4: Put changes an answer of Items")
	}
	y, _ := x.e.Get("g1")
	y.Value, y.Version = "another", 77
	z := sized("new", 300, 8)
	x.put("memory", z)
	z.Value = "another"
	x.holds("R4: items that are changed", "g1", "new")
	// a list of keys is not changed, nor kept
	room := []string{"s2", "nobody", "s2", "g2", "behind", "behind"}
	keys := room[:4]
	kept := slices.Clone(room)
	x.remove("memory", keys...)
	if !slices.Equal(room, kept) {
		t.Errorf("R4: Remove changes its list: %q", room)
	}
	keys[0], keys[3] = "s3", "g3"
	x.holds("R4: a list of keys that is changed", "s2", "s3", "g2", "g3")
	// a block that was handed in, or answered
	b := x.e.Block()
	b.Image = 5
	x.set("memory", b)
	b.Horizon = 99
	x.holds("R4: a block that is changed")
}

// Engines on a device and on a copy of it are their own.
func TestBesideEachOther(t *testing.T) {
	a := begin(t, little())
	a.told(3)
	a.put("a copy", sized("a", 60, 1))
	a.settle("a copy")
	b := beginOn(t, "a copy", a.d.Copy(), little())
	for i := range uint64(20) {
		a.put("the one", sized(fmt.Sprint("k", i), 60+30*int(i), i+10))
		b.put("the other", sized(fmt.Sprint("l", i), 400-10*int(i), i+10))
		if i%6 == 0 {
			b.remove("the other", "a")
			a.wipe("the one")
		}
		a.holds("R5: the one", "a")
		b.holds("R5: the other", "a")
	}
	b.both(func(d *flash.Dev) { d.Crash(nil) })
	if e := a.settle("the one"); e != api.OK {
		t.Errorf("R5: a crash of a copy: %d", e)
	}
	a.holds("R5: the one")
}

// Which Puts an engine could do without its device: each list is put whole, one item behind the other, on an
// engine that is not done, and on one that is.
func TestTouches(t *testing.T) {
	great := func(sizes ...int) []api.Item {
		var l []api.Item
		for i, size := range sizes {
			l = append(l, sized(fmt.Sprint("new", i), size, uint64(20+i)))
		}
		return l
	}
	for i, c := range []struct {
		l    []api.Item
		want bool
	}{
		{nil, false},
		{great(121), false},
		{great(120), true},
		{great(34 + 3), true},
		{great(872), false}, // all that the open region has room for
		{great(873), true},
		{great(436, 436), false},
		{great(436, 437), true},
		{great(121, 751), false},
		{great(121, 120), true},
		{great(121, 121, 121, 121, 121, 121, 121), false},
		{great(121, 121, 121, 121, 121, 121, 121, 121), true},
		{[]api.Item{sized("g", 872, 9)}, false},
		{[]api.Item{sized("h", 436, 9), sized("h", 436, 10)}, false}, // what is put anew keeps its room
		{[]api.Item{sized("h", 436, 9), sized("h", 437, 10)}, true},
		{[]api.Item{sized("a", 600, 9)}, true}, // the bucket may have it
		{[]api.Item{sized("b", 600, 9)}, true},
		{append(great(200), sized("b", 600, 9)), true},
		{wrong(), false}, // they are refused
		{append(wrong(), great(872)...), false},
		{append(wrong(), great(873)...), true},
	} {
		for _, done := range []bool{false, true} {
			x := begin(t, little())
			x.told(5)
			x.put("ahead", sized("a", 60, 1))
			x.put("ahead", sized("g", 600, 2))
			x.settle("ahead")
			x.put("ahead", sized("b", 60, 3))
			x.put("ahead", sized("h", 600, 4))
			if done {
				x.both(func(d *flash.Dev) { d.On() })
			}
			before := x.d.Copy()
			if got := x.e.Touches(c.l...); got != c.want || x.d.Stat() != before.Stat() || differ(x.d, before) {
				t.Errorf("P10.3: number %d, done %t: Touches: %t", i, done, got)
			}
			ahead, does := x.d.Stat(), false
			for _, y := range c.l {
				does = touched(x.d, ahead, x.put("listed", y)) || does
			}
			if does != c.want {
				t.Errorf("P10.3: number %d, done %t: the device is touched: %t", i, done, does)
			}
		}
	}
}
