package hybrid

import (
	"fmt"
	"slices"
	"testing"

	"cellaret/api"
	"cellaret/dram"
	"cellaret/engine"
	"cellaret/flash"
	"cellaret/image"
	"cellaret/super"
)

// What is on the device behind a clean end: the log is sealed, nothing waits, the image has memory's items in
// their order, and the block says so.
func TestShutdown(t *testing.T) {
	x := beginRoomy(t, 2)
	for k := range 6 {
		x.sets(sized(fmt.Sprint("g", k), 1050))
	}
	x.sets(sized("s", 60))
	x.tells("g1", 0, 2, api.OK)
	ahead, block := x.s.Memory(), mustLoad(t, x.d)
	if e := x.shutdown(); e != api.OK || len(x.d.Waiting()) > 0 || !slices.Equal(x.s.Memory(), ahead) {
		t.Errorf("P16.4: Shutdown: %d, %v wait", e, x.d.Waiting())
	}
	var want []api.Item
	size := 0
	for _, y := range ahead {
		want = append(want, y.Item)
		size += 32 + len(y.Item.Key) + len(y.Item.Value)
	}
	pages := (size + 375) / 376
	block.Seq, block.Clean, block.Image = block.Seq+1, true, pages
	if b := mustLoad(t, x.d); b != block {
		t.Errorf("P16.4: the block: %+v, want %+v", b, block)
	}
	if l, e := image.Load(x.d, behind(roomy()), pages); !slices.Equal(l, want) || e != api.OK {
		t.Errorf("P16.4: the image: %s, %d, want %s", names(l), e, names(want))
	}
	if _, e := x.d.Read(behind(roomy()) + pages); e != api.ENONE {
		t.Errorf("P16.4: the page behind the image: %d", e)
	}
	// the device's own items, with no memory at all
	n, _, e := engine.Open(x.d.Copy(), roomy())
	if e != api.OK || names(n.Items()) != names(x.s.Device()) || len(n.Items()) == 0 {
		t.Errorf("P16.4: the device behind Shutdown: %d", e)
	}
}

func mustLoad(t *testing.T, d *flash.Dev) super.Block {
	t.Helper()
	b, e := super.Load(d)
	if e != api.OK {
		t.Fatalf("P5.2: Load: %d", e)
	}
	return b
}

// Of nothing: no page of an image; the block is Clean all the same.
func TestShutdownOfNothing(t *testing.T) {
	for _, g := range []engine.Geometry{little(), shape(1, 1, 1, 0), shape(1, 1, 1, 256)} {
		x := beginOn(t, device(t, engine.Pages(g)), g, 1)
		x.again(1, 0)
		x.stands("P16.4: nothing", "", "")
		x.sets(sized("a", 60))
		x.shutdown()
		want := super.Block{Seq: mustLoad(t, x.d).Seq, Epoch: 2, Reserved: 64, Clean: true, Image: min(g.Image, 1)}
		if b := mustLoad(t, x.d); b != want {
			t.Errorf("P16.4: the block: %+v, want %+v", b, want)
		}
		x.open(1, 0)
		if len(x.s.Memory()) != min(g.Image, 1) {
			t.Errorf("P16.1: %+v: %s", g, outs(x.s.Memory()))
		}
	}
}

// What memory has is written down, Clean or not, dead or not: time is told to Open alone.
func TestShutdownOfCleanAndDeadOnes(t *testing.T) {
	x := beginRoomy(t, 1)
	x.sets(timed("a", 1050, 5), sized("b", 1050), sized("c", 1050))
	x.tells("a", 4, 1, api.OK)
	x.stands("P16.2: ahead", "a1* c3", "a1 b2")
	x.again(1, 4)
	x.stands("P16.1: behind it", "a1 c3", "a1 b2")
	x.again(1, 5)
	x.stands("P16.1: at its time", "c3", "a1 b2")
	x.tells("a", 5, 0, api.OK)
}

// Each step of Shutdown, cut: its error is told, no clean end is told of but if the block was written, and what
// is there behind it is what was there, or nothing.
func TestShutdownThatIsCut(t *testing.T) {
	full := func() *pair {
		x := begin(t, 1)
		x.sets(sized("a", 1050), sized("b", 1050), sized("c", 1050))
		x.both(func(d *flash.Dev) { d.Flush() })
		return x
	}
	// four pages of the region, its flush, a flush; six pages of the image, its flush; the block, its flush
	const steps = 4 + 1 + 1 + 6 + 1 + 1 + 1
	for step := 1; step <= steps+1; step++ {
		for pick := range byte(3) {
			x := full()
			x.arm(step)
			e := x.shutdown()
			if step <= steps && e != api.EOFF || step > steps && e != api.OK {
				t.Errorf("P16.4: Shutdown, cut at %d: %d", step, e)
			}
			x.crash(1, 0, pick, pick, pick, pick, pick, pick)
			memory, device := "", ""
			if step > 5 || step == 5 && pick == 1 {
				device = "a1"
			}
			if step > steps || step == steps && pick == 1 {
				memory = "c3 b2"
			}
			x.stands(fmt.Sprintf("P16.4: Shutdown, cut at %d, picks %d", step, pick), memory, device)
		}
	}
}

// Errors that are no EOFF: of the first step that has one; the next are not done.
func TestShutdownWithAnError(t *testing.T) {
	x := beginOn(t, wornLog(t, little()), little(), 1)
	x.sets(sized("a", 1050), sized("b", 1050), sized("c", 1050))
	x.quiet("P16.4: EWORN of Settle", func() {
		if e := x.shutdown(); e != api.EWORN {
			t.Errorf("P16.4: Shutdown with a log that is worn: %d", e)
		}
	})
	x.open(1, 0)
	x.stands("P16.4: no clean end", "", "")
	x = wornBlock(t, sized("k", 1050))
	if e := x.shutdown(); e != api.EWORN {
		t.Errorf("P16.4: Shutdown with a block that is worn: %d", e)
	}
	if l, e := image.Load(x.d, behind(x.p.g), 6); names(l) != "k66 c68" || e != api.OK {
		t.Errorf("P16.4: the image ahead of the block: %s, %d", names(l), e)
	}
}

// Clean ends one behind the other, with changes in between: all is there each time.
func TestCleanEnds(t *testing.T) {
	x := beginRoomy(t, 3)
	want := map[string]api.Item{}
	for turn := range 30 {
		y := sized(fmt.Sprint("k", turn%3), 60+turn*30)
		v, _ := x.set(y, 0)
		y.Version = v
		want[y.Key] = y
		if turn%5 == 4 {
			x.deletes("k1", 0, true, api.OK)
			delete(want, "k1")
		}
		if turn%2 == 0 {
			x.again(3, 0)
		}
		for k := range 3 {
			key := fmt.Sprint("k", k)
			if got, ok, e := x.get(key, 0); got != want[key] || ok != (want[key].Version > 0) || e != api.OK {
				t.Errorf("T4: turn %d: Get(%s): %s, %t, %d, want %s", turn, key, names([]api.Item{got}), ok, e, names([]api.Item{want[key]}))
			}
		}
	}
}

func TestLost(t *testing.T) {
	x := beginOn(t, wornLog(t, little()), little(), 1)
	for k := range 10 {
		x.sets(sized(fmt.Sprint("k", k), 1050))
		if want := max(0, k-2); x.s.Lost() != want {
			t.Errorf("P16.2: Lost behind %d: %d, want %d", k, x.s.Lost(), want)
		}
	}
	x.wipe()
	if x.s.Lost() != 7 {
		t.Errorf("P16.2: Lost behind Wipe: %d", x.s.Lost())
	}
	x.open(1, 0)
	if x.s.Lost() != 0 {
		t.Errorf("P16.2: Lost of a new store: %d", x.s.Lost())
	}
}

// losses are the ways in which a device's power goes.
func losses() map[string]func(d *flash.Dev) {
	return map[string]func(d *flash.Dev){
		"Crash":               func(d *flash.Dev) { d.Crash(nil) },
		"Crash, and On":       func(d *flash.Dev) { d.Crash([]byte{1, 2, 1}); d.On() },
		"On":                  func(d *flash.Dev) { d.On() },
		"Write that is cut":   func(d *flash.Dev) { d.Arm(1); d.Write(0, nil) },
		"Flush cut, and On":   func(d *flash.Dev) { d.Arm(1); d.Flush(); d.On() },
		"On, and about to go": func(d *flash.Dev) { d.On(); d.Arm(1) },
	}
}

// A store is done with any loss of its device: what would touch it is EOFF (but EARG comes first), and nothing
// of it is done; what is answered out of memory is answered as before.
func TestDone(t *testing.T) {
	for name, loss := range losses() {
		x := begin(t, 1)
		x.sets(sized("s", 60), timed("both", 1050, 50), sized("a", 1050), sized("c", 1050))
		x.tells("both", 0, 2, api.OK)
		memory := "both2* c4"
		x.stands("P16.2: ahead", memory, "s1 both2 a3")
		x.both(loss)
		ahead := x.d.Copy()
		unchanged := func(what string) {
			t.Helper()
			if m := outs(x.s.Memory()); m != memory || x.s.Lost() != 0 || differ(x.d, ahead) {
				t.Errorf("P16: done by %s: %s: memory %s, ahead %s, Lost %d, or the device is changed", name, what, m, memory, x.s.Lost())
			}
		}
		for _, y := range noGood() {
			x.refuses(y, 0, api.EARG)
		}
		for _, key := range []string{"new", "s", "both", "a"} { // c would be written for the new one
			x.refuses(sized(key, 60), 0, api.EOFF)
			x.refuses(sized(key, 1050), 0, api.EOFF)
			unchanged("Set of " + key)
		}
		x.tells("s", 0, 0, api.EOFF)     // the bucket would be read
		x.tells("a", 0, 0, api.EOFF)     // it would be moved up, and c written
		x.tells("both", 50, 0, api.EOFF) // it would be removed
		x.deletes("s", 0, false, api.EOFF)
		x.deletes("a", 0, false, api.EOFF)
		x.deletes("both", 0, false, api.EOFF)
		x.deletes("both", 50, false, api.EOFF)
		unchanged("Get and Delete")
		if e, f := x.wipe(), x.shutdown(); e != api.EOFF || f != api.EOFF {
			t.Errorf("P16: done by %s: Wipe %d, Shutdown %d", name, e, f)
		}
		unchanged("Wipe and Shutdown")
		if l := x.s.Device(); len(l) > 0 {
			t.Errorf("P16.4: done by %s: Device: %s", name, names(l))
		}
		// out of memory
		x.tells("c", 0, 4, api.OK)
		x.tells("both", 49, 2, api.OK)
		x.tells("nobody", 0, 0, api.OK)
		x.deletes("nobody", 0, false, api.OK)
		unchanged("what memory tells")
		x.deletes("c", 0, true, api.OK)
		x.deletes("c", 0, false, api.OK)
		if differ(x.d, ahead) {
			t.Errorf("P16: done by %s: the device is changed by what is answered out of memory", name)
		}
	}
}

// A dead one that the device has not is let go, done or not.
func TestDoneWithADeadOneInMemory(t *testing.T) {
	x := begin(t, 1)
	x.sets(timed("d", 60, 50), sized("e", 60))
	x.both(func(d *flash.Dev) { d.On() })
	x.tells("d", 49, 1, api.OK)
	x.tells("d", 50, 0, api.OK)
	x.stands("P16.2: dead in memory", "e2", "")
}

// Another store on the same device does not bring back one that is done; and one that is not done goes on.
func TestDoneForGood(t *testing.T) {
	x := three(t)
	old := x.s
	x.crash(1, 0)
	x.sets(sized("n", 60))
	if _, e := old.Set(sized("a", 60), 0); e != api.EOFF {
		t.Errorf("P16: Set of one that is done: %d", e)
	}
	if _, _, e := old.Get("a", 0); e != api.EOFF {
		t.Errorf("P16: Get of one that is done: %d", e)
	}
	if y, ok, e := old.Get("c", 0); y.Version != 3 || !ok || e != api.OK {
		t.Errorf("P16: Get out of memory of one that is done: %d, %t, %d", y.Version, ok, e)
	}
	if e, f := old.Wipe(), old.Shutdown(); e != api.EOFF || f != api.EOFF {
		t.Errorf("P16: of one that is done: Wipe %d, Shutdown %d", e, f)
	}
	x.stands("P16: the other one", "n65", "")
	x.same("P16: the other one")
}

// What is told is the caller's: what becomes of it changes nothing, and is not changed by later calls.
func TestMemoryOfItsOwn(t *testing.T) {
	x := three(t)
	m, l := x.s.Memory(), x.s.Device()
	keptM, keptL := slices.Clone(m), slices.Clone(l)
	spoil := func() {
		m, l := x.s.Memory(), x.s.Device()
		for i := range m[:cap(m)] {
			m[:cap(m)][i] = dram.Out{Item: api.Item{Key: "spoilt"}}
		}
		for i := range l[:cap(l)] {
			l[:cap(l)][i] = api.Item{Key: "spoilt"}
		}
	}
	for k := range 20 {
		spoil()
		x.same("R4: what is told is spoilt")
		x.sets(sized(fmt.Sprint("k", k%4), 300))
		x.get("a", 0)
		spoil()
		x.deletes("c", 0, k == 0, api.OK)
		x.same("R4: what is told is spoilt")
	}
	if !slices.Equal(m, keptM) || !slices.Equal(l, keptL) {
		t.Errorf("R4: what was told is changed by later calls: %s; %s", outs(m), names(l))
	}
}

// Memory and Device tell, and change nothing.
func TestTellingChangesNothing(t *testing.T) {
	x := three(t)
	ahead := x.d.Copy()
	for range 5 {
		x.stands("P16.4: told again", "c3 b2", "a1")
		if x.s.Lost() != 0 || differ(x.d, ahead) {
			t.Errorf("P16.4: the device is changed by what tells alone")
		}
	}
	x.sets(sized("d", 1050)) // b is not used by it
	x.stands("P16.4: behind it", "d4 c3", "a1 b2")
}

// Two stores know nothing of each other.
func TestTwoStores(t *testing.T) {
	x, y := begin(t, 1), begin(t, 1)
	for k := range 6 {
		x.sets(sized(fmt.Sprint("k", k), 1050))
		y.sets(sized(fmt.Sprint("k", 5-k), 300))
		x.deletes(fmt.Sprint("k", k/2), 0, k%2 == 0, api.OK)
	}
	x.wipe()
	if len(y.s.Memory()) != 6 {
		t.Errorf("R5: the other one: %s", outs(y.s.Memory()))
	}
	y.same("R5: the other one")
}
