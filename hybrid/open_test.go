package hybrid

import (
	"encoding/binary"
	"fmt"
	"math"
	"slices"
	"strings"
	"testing"

	"cellaret/api"
	"cellaret/engine"
	"cellaret/flash"
	"cellaret/super"
)

const most = math.MaxUint64

func TestExamples(t *testing.T) {
	x := begin(t, 1)
	a := api.Item{Key: "a", Value: "v", Flags: 7}
	x.sets(a)
	x.tells("a", 0, 1, api.OK)
	x.again(1, 0)
	x.tells("a", 0, 1, api.OK)
	x.crash(1, 0)
	x.tells("a", 0, 0, api.OK)
	x = begin(t, 1)
	x.sets(a)
	x.crash(1, 0)
	x.tells("a", 0, 0, api.OK)
}

// A new one holds nothing; a block of this opening is stored, and nothing else.
func TestOpenOfANewDevice(t *testing.T) {
	x := begin(t, 1)
	x.stands("P16.1: new", "", "")
	if x.s.Lost() != 0 || x.d.Stat().Writes != 1 || x.d.Stat().Flushes != 1 {
		t.Errorf("P16.1: Open: Lost %d, Stat %+v", x.s.Lost(), x.d.Stat())
	}
	if b, e := super.Load(x.d); b != (super.Block{Seq: 1, Epoch: 1}) || e != api.OK {
		t.Errorf("P16.1: the block behind Open: %+v, %d", b, e)
	}
	x.tells("nobody", 0, 0, api.OK)
}

// refusesOpen holds Open against an error: nothing is told beside it, and nothing is written.
func refusesOpen(t *testing.T, d *flash.Dev, g engine.Geometry, pages int, want api.Errno) {
	t.Helper()
	ahead := d.Copy()
	if s, e := Open(d, g, pages, 0); s != nil || e != want || differ(d, ahead) {
		t.Errorf("P16.1: Open(%+v, %d) of %d pages: %t, %d, want %d", g, pages, d.Pages(), s != nil, e, want)
	}
}

func TestOpenRefused(t *testing.T) {
	g := little()
	d := device(t, engine.Pages(g))
	off := d.Copy()
	off.Crash(nil)
	for _, pages := range []int{math.MinInt, -1, 0, 1025, math.MaxInt} {
		refusesOpen(t, d, g, pages, api.EARG)
		refusesOpen(t, d, engine.Geometry{}, pages, api.EARG)
		refusesOpen(t, off, g, pages, api.EARG) // memory comes first
	}
	for _, bad := range []engine.Geometry{shape(0, 0, 0, 0), shape(0, 2, 2, 0), shape(65, 2, 2, 0), shape(1, 0, 1, 0), shape(1, 65, 1, 0), shape(1, 1, 0, 0), shape(1, 1, 17, 0), shape(1, 1, 1, -1), shape(1, 1, 1, 257)} {
		refusesOpen(t, device(t, 4096), bad, 1, api.EARG)
		refusesOpen(t, off, bad, 1, api.EARG)
	}
	refusesOpen(t, device(t, engine.Pages(g)-1), g, 1, api.EARG)
	refusesOpen(t, off, g, 1, api.EOFF)
	for _, pages := range []int{1, 2, 1023, 1024} {
		x := begin(t, pages)
		x.sets(sized("a", 1050))
		x.stands("P16.1: with pages", "a1", "")
	}
	for _, good := range []engine.Geometry{shape(1, 1, 1, 0), shape(64, 64, 16, 256)} {
		beginOn(t, device(t, engine.Pages(good)), good, 1).sets(sized("a", 60))
		beginOn(t, device(t, 4096), good, 1).sets(sized("a", 60))
	}
}

// Pages say how much memory there is: of two chunks a page the rest is let go.
func TestPagesOfMemory(t *testing.T) {
	for pages := 1; pages <= 4; pages++ {
		x := begin(t, pages)
		for k := range 10 {
			x.sets(sized(fmt.Sprint("k", k), 1050))
		}
		if n := len(x.s.Memory()); n != 2*pages {
			t.Errorf("P16.1: %d pages hold %d items of two a page", pages, n)
		}
	}
}

// numbered makes a device whose newest block is given.
func numbered(t *testing.T, g engine.Geometry, b super.Block) *flash.Dev {
	t.Helper()
	d := device(t, engine.Pages(g))
	d.Write(int(b.Seq%2), super.Encode(b))
	d.Flush()
	return d
}

func TestOpenOfAWornBlock(t *testing.T) {
	refusesOpen(t, numbered(t, little(), super.Block{Seq: most}), little(), 1, api.EWORN)
	refusesOpen(t, numbered(t, little(), super.Block{Seq: most, Clean: true}), little(), 1, api.EWORN)
	beginOn(t, numbered(t, little(), super.Block{Seq: most - 1}), little(), 1)
}

// The block is stored ahead of all else: cut there, a clean end is still one.
func TestOpenThatIsCut(t *testing.T) {
	for step := 1; step <= 2; step++ {
		x := begin(t, 2)
		x.sets(sized("a", 60), sized("b", 300))
		x.shutdown()
		x.arm(step)
		if e := x.open(2, 0); e != api.EOFF {
			t.Errorf("P16.1: Open, cut at %d: %d", step, e)
		}
		x.crash(2, 0)
		x.stands("P16.1: behind an Open that was cut", "a1 b2", "")
	}
}

// What was in memory is there again, from the head on; and the device no longer counts for having it.
func TestTakenUp(t *testing.T) {
	x := beginRoomy(t, 2)
	for k := range 6 {
		x.sets(sized(fmt.Sprint("g", k), 1050))
	}
	x.stands("P16.2: ahead", "g56 g45 g34 g23", "g01 g12")
	x.tells("g0", 0, 1, api.OK)
	x.tells("g3", 0, 4, api.OK)
	x.stands("P16.2: ahead", "g01* g56 g45 g34", "g01 g12 g23")
	x.again(2, 0) // with it the log is sealed: its eldest region, which had g0, is written over
	x.stands("P16.1: behind a clean end", "g01 g56 g45 g34", "g12 g23")
	x.again(2, 0)
	x.stands("P16.1: behind another one", "g01 g56 g45 g34", "g12 g23")
	x.sets(sized("s", 60)) // nothing is used any more: so g3 goes, and g4 for the page
	x.stands("P16.1: behind clean ends", "s65 g01 g56", "g23 g34 g45")
}

// Items of all classes, by class.
func TestTakenUpOfAllClasses(t *testing.T) {
	x := beginRoomy(t, 6)
	for k, size := range []int{60, 64, 65, 128, 129, 256, 257, 512, 513, 1024, 1025, 1306} {
		x.sets(sized(strings.Repeat(string(rune('a'+k)), min(size/5, 250)), size))
	}
	ahead := x.s.Memory()
	x.both(func(d *flash.Dev) { d.Flush() })
	x.again(6, 0)
	if got := x.s.Memory(); len(got) != 12 || !slices.Equal(got, ahead) {
		t.Errorf("P16.1: %q, want %q", outs(got), outs(ahead))
	}
}

// The image is what fits its pages, from memory's first item on; with no pages nothing.
func TestTakenUpOfWhatFits(t *testing.T) {
	for pages, want := range map[int]string{0: "", 1: "", 2: "c3", 3: "c3 b2", 4: "c3 b2", 5: "c3 b2 a1"} {
		g := shape(1, 1, 1, pages)
		x := beginOn(t, device(t, engine.Pages(g)), g, 1)
		x.sets(sized("a", 500), sized("b", 500), sized("c", 505))
		x.again(1, 0)
		x.stands(fmt.Sprint("P16.4: an image of ", pages, " pages"), want, "")
	}
}

// Dead from its Exp on; 0 is never.
func TestTakenUpAtItsTime(t *testing.T) {
	for _, c := range []struct {
		now  int64
		want string
	}{
		{math.MinInt64, "e5 d4 c3 b2 a1"},
		{-4, "e5 d4 c3 b2 a1"},
		{-3, "e5 d4 b2 a1"},
		{0, "e5 d4 b2 a1"},
		{9, "e5 d4 b2 a1"},
		{10, "e5 d4 a1"},
		{11, "e5 a1"},
		{math.MaxInt64 - 1, "e5 a1"},
		{math.MaxInt64, "a1"},
	} {
		x := begin(t, 1)
		for _, y := range []api.Item{sized("a", 60), timed("b", 60, 10), timed("c", 60, -3), timed("d", 60, 11), timed("e", 60, math.MaxInt64)} {
			x.set(y, math.MinInt64)
		}
		x.again(1, c.now)
		x.stands(fmt.Sprint("P16.1: at ", c.now), c.want, "")
	}
}

// setBlock stores another block than the one that Shutdown stored.
func (x *pair) setBlock(f func(b *super.Block)) {
	x.t.Helper()
	x.both(func(d *flash.Dev) {
		b, e := super.Load(d)
		f(&b)
		if _, e2 := super.Store(d, b); e != api.OK || e2 != api.OK {
			x.t.Fatalf("P5.2: %d, %d", e, e2)
		}
	})
}

func TestTakenUpAboveHorizon(t *testing.T) {
	for horizon, want := range map[uint64]string{0: "e5 d4 c3 b2 a1", 1: "e5 d4 c3 b2", 2: "e5 d4 c3", 4: "e5", 5: "", 6: "", most: ""} {
		x := begin(t, 1)
		for _, key := range []string{"a", "b", "c", "d", "e"} {
			x.sets(sized(key, 60))
		}
		x.shutdown()
		x.setBlock(func(b *super.Block) { b.Horizon = horizon })
		x.open(1, 0)
		x.stands(fmt.Sprint("P16.1: above ", horizon), want, "")
	}
}

// A journal that is full wipes the device: what memory has is elder then than Horizon. It is told as long
// as it is there, and is not taken up.
func TestTakenUpBehindAFullJournal(t *testing.T) {
	g := shape(1, 1, 2, 24)
	x := beginOn(t, device(t, engine.Pages(g)), g, 2)
	for _, key := range []string{"a", "b", "c", "d", "e"} {
		x.sets(sized(key, 1050))
	}
	x.stands("P16.2: ahead", "e5 d4 c3 b2", "a1")
	x.deletes("a", 0, true, api.OK) // the journal is full
	x.sets(sized("f", 1050))
	x.stands("P16.2: ahead", "f6 e5 d4 c3", "b2")
	x.deletes("b", 0, true, api.OK)
	x.stands("P10.4: wiped in place of it", "f6 e5 d4 c3", "")
	x.tells("d", 0, 4, api.OK)
	x.sets(sized("g", 1050))
	x.stands("P10.3: what is let go does not count", "g7 f6 e5 d4", "")
	x.tells("c", 0, 0, api.OK)
	x.again(2, 0)
	x.stands("P16.1: above Horizon", "g7", "")
}

// An image is taken up behind the clean end that wrote it, and no more.
func TestNoCleanEnd(t *testing.T) {
	x := begin(t, 2)
	x.sets(sized("a", 60), sized("b", 300))
	x.again(2, 0)
	x.stands("P16.1: a clean end", "a1 b2", "")
	x.crash(2, 0)
	x.stands("P16.1: no clean end", "", "")
	x.sets(sized("c", 60))
	x.shutdown()
	x.setBlock(func(b *super.Block) { b.Clean = false })
	x.open(2, 0)
	x.stands("P16.1: a block that is not Clean", "", "")
}

// The Image of the block says how many pages there are.
func TestImageOfTheBlock(t *testing.T) {
	for n, want := range map[int]string{0: "", 1: "a1", 2: "", 3: "", 8: "", 9: "", 1000: "", math.MaxInt32: ""} {
		x := begin(t, 1)
		x.sets(sized("a", 60))
		x.shutdown()
		x.setBlock(func(b *super.Block) { b.Image = n })
		x.open(1, 0)
		x.stands(fmt.Sprint("P16.1: Image ", n), want, "")
	}
	// a record that is cut by the last page's end is no record; one that is not is one
	x := begin(t, 1)
	x.sets(sized("a", 376), sized("b", 376), sized("c", 376))
	x.shutdown()
	x.setBlock(func(b *super.Block) { b.Image = 2 })
	x.open(1, 0)
	x.stands("P16.1: two of three pages", "c3 b2", "")
	x.sets(sized("d", 300))
	x.shutdown()
	x.setBlock(func(b *super.Block) { b.Image = 2 })
	x.open(1, 0)
	x.stands("P16.1: two pages, and a record that is cut", "", "")
}

// An image that does not load is nothing: what the device has is there all the same.
func TestAnImageThatDoesNotLoad(t *testing.T) {
	spoils := map[string]func(d *flash.Dev, page int){
		"erased": func(d *flash.Dev, page int) { d.Erase(page); d.Flush() },
		"torn":   func(d *flash.Dev, page int) { d.Write(page, nil); d.Crash([]byte{2}); d.On() },
		"blank":  func(d *flash.Dev, page int) { d.Write(page, nil); d.Flush() },
		"spoilt": func(d *flash.Dev, page int) {
			b, _ := d.Read(page)
			b[20]++
			d.Write(page, b)
			d.Flush()
		},
	}
	for name, spoil := range spoils {
		for page := range 6 {
			x := begin(t, 1)
			x.sets(sized("a", 1050), sized("b", 1050), sized("c", 1050))
			x.shutdown()
			x.both(func(d *flash.Dev) { spoil(d, behind(little())+page) })
			x.open(1, 0)
			x.stands("P16.1: an image that is "+name, "", "a1")
			x.tells("b", 0, 0, api.OK)
			x.tells("a", 0, 1, api.OK)
		}
	}
}

// More than memory has room for is spilt, the last ones of the image first.
func TestTakenUpWithSpill(t *testing.T) {
	x := beginRoomy(t, 2)
	x.sets(sized("a", 1050), sized("b", 1050), sized("c", 1050), sized("d", 1050))
	x.stands("P16.1: ahead", "d4 c3 b2 a1", "")
	x.again(1, 0)
	x.stands("P16.1: with less memory", "d4 c3", "a1 b2")
	if x.s.Lost() != 0 {
		t.Errorf("P16.2: Lost: %d", x.s.Lost())
	}
	x = beginRoomy(t, 2)
	for _, y := range []api.Item{timed("a", 1050, 8), timed("b", 1050, 9), sized("c", 1050), sized("d", 1050)} {
		x.sets(y)
	}
	x.again(1, 8)
	x.stands("P16.1: with less memory, and one that is dead", "d4 c3", "b2")
}

// The power goes with a Spill of Open: that is its error.
func TestOpenWhoseSpillIsCut(t *testing.T) {
	steps := 0
	for step := 3; step == steps+3; step++ {
		x := beginRoomy(t, 4)
		for k := range 7 {
			x.sets(sized(fmt.Sprint("k", k), 1050))
		}
		x.shutdown()
		x.arm(step)
		if e := x.open(1, 0); e == api.EOFF {
			steps++
		} else if e != api.OK {
			t.Errorf("P16.1: Open, cut at %d: %d", step, e)
		}
		x.crash(1, 0)
	}
	if steps != 20 { // five are spilt, one a region: four of them are sealed
		t.Errorf("P16.1: Open with Spill takes %d steps", steps)
	}
}

// wornLog makes a device whose log has no number left.
func wornLog(t *testing.T, g engine.Geometry) *flash.Dev {
	t.Helper()
	d := device(t, engine.Pages(g))
	b := binary.LittleEndian.AppendUint64([]byte{82, 71, 0, 0, 0, 0, 0, 0}, most)
	d.Write(behind(g)-1, b)
	d.Flush()
	return d
}

// Any other error of a Spill is none of Open: what it was of is lost.
func TestOpenWhoseSpillIsRefused(t *testing.T) {
	x := beginRoomy(t, 4)
	for k := range 5 {
		x.sets(sized(fmt.Sprint("k", k), 1050))
	}
	x.shutdown()
	worn := wornLog(t, roomy())
	page, _ := worn.Read(behind(roomy()) - 1)
	x.both(func(d *flash.Dev) { d.Write(behind(roomy())-1, page); d.Flush() })
	if e := x.open(1, 0); e != api.OK || x.s.Lost() != 2 {
		t.Errorf("P16.1: Open with a log that is worn: %d, Lost %d", e, x.s.Lost())
	}
	x.stands("P16.1: a log that is worn", "k45 k34", "k01")
}

// blockAt is a block with a number, and 64 versions that are given.
func blockAt(seq uint64) super.Block { return super.Block{Seq: seq, Reserved: 64} }
