package engine

import (
	"fmt"
	"math"
	"slices"
	"strings"
	"testing"

	"cellaret/api"
	"cellaret/bucket"
	"cellaret/flash"
	"cellaret/rec"
	"cellaret/region"
	"cellaret/super"
	"cellaret/tomb"
)

const most = uint64(math.MaxUint64)

// little is a geometry in which all is soon full.
func little() Geometry { return Geometry{Journal: 3, Buckets: 2, Regions: 2} }

func TestExamples(t *testing.T) {
	d := device(t, Pages(little()))
	e, ahead, err := Open(d, little())
	if err != api.OK || ahead != (super.Block{}) || e.Block() != (super.Block{Seq: 1, Epoch: 1}) {
		t.Fatalf("P10.1: example: Open of a new device: %+v, %d; %+v", ahead, err, e.Block())
	}
	if b, err := super.Load(d); err != api.OK || b != e.Block() {
		t.Errorf("P10.1: example: what is stored: %+v, %d", b, err)
	}
	if v, err := e.Version(); v != 1 || err != api.OK || e.Block().Reserved != 64 {
		t.Errorf("P10.2: example: Version: %d, %d; %+v", v, err, e.Block())
	}
}

// Each number below its least, at its least, at its most, one past it, and far from it.
func TestGeometry(t *testing.T) {
	type bound struct{ least, most int }
	bounds := [4]bound{{1, 64}, {1, 64}, {1, 16}, {0, 256}}
	set := func(g *Geometry, i, n int) { *[]*int{&g.Journal, &g.Buckets, &g.Regions, &g.Image}[i] = n }
	for i, b := range bounds {
		for _, others := range []Geometry{{1, 1, 1, 0}, {64, 64, 16, 256}, {16, 16, 8, 64}} {
			for _, n := range []int{math.MinInt, math.MinInt + 1, -1 << 62, -65, -2, -1, 0, 1, 2, 15, 16, 17, 18, 63, 64, 65, 66, 255, 256, 257, 258, 1 << 32, 1<<32 + 1, 1 << 62, 1<<62 + 1, math.MaxInt - 1, math.MaxInt} {
				g := others
				set(&g, i, n)
				good := n >= b.least && n <= b.most
				want := 0
				if good {
					want = 2 + g.Journal + g.Buckets + 4*g.Regions + g.Image
				}
				if Good(g) != good || Pages(g) != want {
					t.Errorf("P10.1: Good(%+v): %t, Pages %d, want %t, %d", g, Good(g), Pages(g), good, want)
				}
			}
		}
	}
	for g, want := range map[Geometry]int{{1, 1, 1, 0}: 8, {64, 64, 16, 256}: 450, {16, 16, 8, 64}: 130, {1, 1, 1, 1}: 9, {2, 1, 1, 0}: 9, {1, 2, 1, 0}: 9, {1, 1, 2, 0}: 12, {}: 0, {1, 1, 1, -1}: 0, {0, 2, 1, 0}: 0} {
		if Pages(g) != want || Good(g) != (want > 0) {
			t.Errorf("P10.1: Pages(%+v): %d, want %d", g, Pages(g), want)
		}
	}
}

// refused holds an Open against an error, with nothing changed by it.
func refused(t *testing.T, what string, d *flash.Dev, g Geometry, want api.Errno) {
	t.Helper()
	ahead := d.Copy()
	e, b, err := Open(d, g)
	if err != want {
		t.Errorf("P10.1: %s: Open(%+v) of %d pages: %d, want %d", what, g, d.Pages(), err, want)
	}
	if e != nil || b != (super.Block{}) {
		t.Errorf("R2: %s: Open(%+v): %v, %+v beside the error %d", what, g, e, b, err)
	}
	if differ(d, ahead) {
		t.Errorf("R3: %s: Open that is refused changes the device", what)
	}
}

func TestOpenAtTheEdges(t *testing.T) {
	for _, g := range []Geometry{{1, 1, 1, 0}, {64, 64, 16, 256}, {16, 16, 8, 64}, {1, 64, 1, 0}, {64, 1, 1, 0}, {1, 1, 16, 0}, {1, 1, 1, 256}, {3, 2, 2, 0}} {
		n := Pages(g)
		for _, pages := range []int{1, 2, 3, n - 4, n - 1} {
			d := device(t, pages)
			d.Write(0, super.Encode(super.Block{Seq: 2, Gen: 5}))
			refused(t, "too few pages", d, g, api.EARG)
			d.Arm(1)
			refused(t, "too few pages, armed", d, g, api.EARG)
			d.Crash(nil)
			refused(t, "too few pages, the power is off", d, g, api.EARG)
		}
		for _, pages := range []int{n, n + 1, n + 5, api.MaxPages} {
			d := device(t, pages)
			d.Crash(nil)
			refused(t, "the power is off", d, g, api.EOFF)
			d.On()
			if e, b, err := Open(d, g); e == nil || b != (super.Block{}) || err != api.OK {
				t.Errorf("P10.1: Open(%+v) of %d pages: %+v, %d", g, pages, b, err)
			}
		}
	}
	d := device(t, api.MaxPages)
	off := d.Copy()
	off.Crash(nil)
	for _, g := range []Geometry{{}, {0, 1, 1, 0}, {1, 0, 1, 0}, {1, 1, 0, 0}, {1, 1, 1, -1}, {65, 1, 1, 0}, {1, 65, 1, 0}, {1, 1, 17, 0}, {1, 1, 1, 257}, {math.MinInt, 1, 1, 0}, {1, 1, math.MaxInt, 0}, {1, 1, 1 << 62, 0}} {
		refused(t, "a wrong geometry", d, g, api.EARG)
		refused(t, "a wrong geometry, the power is off", off, g, api.EARG)
	}
}

// What each part has of the device's pages: with numbers of which no two could be taken for each other.
func TestWhereEachPartLies(t *testing.T) {
	g := Geometry{Journal: 5, Buckets: 3, Regions: 2, Image: 7}
	d := device(t, Pages(g)+2)
	x := beginOn(t, "where each part lies", d, g)
	used := func() []int {
		var l []int
		for at := range d.Pages() {
			if _, e := d.Read(at); e != api.ENONE {
				l = append(l, at)
			}
		}
		return l
	}
	holds := func(what string, want ...int) {
		t.Helper()
		if got := used(); !slices.Equal(got, want) {
			t.Errorf("P10: %s: the pages %v are written, want %v", what, got, want)
		}
	}
	holds("Open", 1)
	x.version("where")
	holds("Version", 0, 1)
	for at := range 3 {
		x.put("where", sized(keysOf(1, at, 3)[0], 60, 1))
	}
	holds("small Puts", 0, 1, 7, 8, 9)
	x.remove("where", keysOf(1, 0, 3)...)
	holds("Remove", 0, 1, 2, 7, 8, 9)
	x.put("where", sized("great", 500, 2))
	x.settle("where")
	holds("the first Seal, of place 1", 0, 1, 2, 7, 8, 9, 14, 15, 16, 17)
	x.put("where", sized("great", 500, 3))
	x.settle("where")
	holds("the second, of place 0", 0, 1, 2, 7, 8, 9, 10, 11, 12, 13, 14, 15, 16, 17)
	for n := range 5 {
		x.put("where", sized(fmt.Sprint("g", n), 1000, 4))
		x.remove("where", keysOf(1, 1, 3)...)
	}
	// the journal has five pages, and the sixth Remove wipes: those behind it stay
	holds("all of it", 0, 1, 2, 3, 4, 5, 6, 7, 8, 9, 10, 11, 12, 13, 14, 15, 16, 17)
	if x.e.Block().Gen != 1 {
		t.Errorf("P10.4: the journal's room: %+v", x.e.Block())
	}
	x.crash("where")
}

// Open reads each part once, stores one block, and flushes once.
func TestOpenReads(t *testing.T) {
	for _, g := range []Geometry{{1, 1, 1, 0}, {4, 3, 2, 9}, {64, 64, 16, 256}} {
		d := device(t, Pages(g))
		if _, _, e := Open(d, g); e != api.OK {
			t.Fatalf("P10.1: Open: %d", e)
		}
		// of the journal the first page, which is blank, alone; the block is read for the store, too
		if want := (flash.Stat{Writes: 1, Flushes: 1, Reads: 2 + 1 + g.Buckets + 4*g.Regions + 2}); d.Stat() != want {
			t.Errorf("P10.1: Open(%+v): %+v, want %+v", g, d.Stat(), want)
		}
	}
}

// The second answer is the block ahead; Block() the same with Epoch one more, and not Clean.
func TestOpenOfManyBlocks(t *testing.T) {
	blocks := []super.Block{
		{Seq: 1},
		{Seq: 5, Epoch: 7, Reserved: 128, Horizon: 77, Gen: 9, Clean: true, Image: 12},
		{Seq: 6, Epoch: 1<<63 - 1, Reserved: 1 << 63, Horizon: 1<<63 - 1, Gen: 1 << 63, Image: math.MaxInt32},
		{Seq: most - 1, Epoch: most - 1, Reserved: most, Horizon: most, Gen: most, Clean: true},
		{Seq: 8, Epoch: most, Clean: true}, // one more is modulo 2^64
	}
	for _, b := range blocks {
		for _, page := range []int{0, 1} {
			d := device(t, Pages(little()))
			d.Write(page, super.Encode(b))
			d.Flush()
			x := beginOn(t, "a block by hand", d, little())
			want := b
			want.Seq, want.Epoch, want.Clean = b.Seq+1, b.Epoch+1, false
			if x.e.Block() != want {
				t.Errorf("P10.1: Block behind %+v: %+v, want %+v", b, x.e.Block(), want)
			}
			if n, e := super.Load(d); n != want || e != api.OK {
				t.Errorf("P10.1: what is stored behind %+v: %+v, %d", b, n, e)
			}
			x.holds("a block by hand")
			if b.Reserved == most {
				continue
			}
			if v, e := x.version("a block by hand"); v != b.Reserved+1 || e != api.OK {
				t.Errorf("P10.2: Version behind %+v: %d, %d", b, v, e)
			}
		}
	}
}

// The newest of two blocks, one beside a torn page, and none.
func TestOpenOfTwoSlots(t *testing.T) {
	g := little()
	for i, c := range []struct {
		zero, one *super.Block
		want      super.Block
	}{
		{&super.Block{Seq: 4, Epoch: 4}, &super.Block{Seq: 3, Epoch: 3}, super.Block{Seq: 4, Epoch: 4}},
		{&super.Block{Seq: 4, Epoch: 4}, &super.Block{Seq: 5, Epoch: 5}, super.Block{Seq: 5, Epoch: 5}},
		{&super.Block{Seq: 4, Epoch: 4}, nil, super.Block{Seq: 4, Epoch: 4}},
		{nil, &super.Block{Seq: 5, Epoch: 5}, super.Block{Seq: 5, Epoch: 5}},
		{nil, nil, super.Block{}},
	} {
		d := device(t, Pages(g))
		for page := range 2 {
			d.Write(page, []byte("torn"))
		}
		d.Crash([]byte{2, 2})
		d.On()
		for page, b := range []*super.Block{c.zero, c.one} {
			if b != nil {
				d.Write(page, super.Encode(*b))
			}
		}
		d.Flush()
		e, ahead, err := Open(d, g)
		if err != api.OK || ahead != c.want || e.Block() != (super.Block{Seq: c.want.Seq + 1, Epoch: c.want.Epoch + 1}) {
			t.Errorf("P10.1: slots of number %d: %+v, %d", i, ahead, err)
		}
	}
}

// The store of the block fails: Open tells its error, and nothing beside it.
func TestOpenWhereTheStoreFails(t *testing.T) {
	g := little()
	d := device(t, Pages(g))
	d.Write(1, super.Encode(super.Block{Seq: most, Epoch: 5, Reserved: 64}))
	d.Flush()
	refused(t, "the greatest Seq", d, g, api.EWORN)
	d.Arm(1)
	refused(t, "the greatest Seq, armed", d, g, api.EWORN)
	d.Crash(nil)
	refused(t, "the greatest Seq, the power is off", d, g, api.EOFF)
	for _, openings := range []int{0, 1, 2, 3} {
		for step := 1; step <= 3; step++ {
			for pick := range 3 {
				x := begin(t, g)
				for range openings {
					x.version("ahead")
					x.open("ahead")
				}
				ahead := x.e.Block()
				x.both(func(d *flash.Dev) { d.Arm(step) })
				e, b, err := Open(x.d, g)
				if step <= 2 {
					if e != nil || b != (super.Block{}) || err != api.EOFF {
						t.Errorf("P10.1: Open that is cut at %d: %v, %+v, %d", step, e, b, err)
					}
				} else if e == nil || b != ahead || err != api.OK {
					t.Errorf("P10.1: Open of two steps: %+v, %d", b, err)
				}
				x.d.Crash([]byte{byte(pick)})
				x.d.On()
				_, b, err = Open(x.d, g)
				next := ahead
				next.Seq, next.Epoch = ahead.Seq+1, ahead.Epoch+1
				want := ahead
				if step == 3 || step == 2 && pick == 1 {
					want = next
				}
				if b != want || err != api.OK {
					t.Errorf("P10.1: Open behind one that was cut at %d, pick %d: %+v, %d, want %+v", step, pick, b, err, want)
				}
			}
		}
	}
}

// Epoch, Clean, Image and Reserved over many openings, with and without a crash between.
func TestOpenings(t *testing.T) {
	x := begin(t, little())
	reserved, horizon, gen := uint64(0), uint64(0), uint64(0)
	for n := uint64(2); n < 60; n++ {
		switch n % 5 {
		case 0:
			b := x.e.Block()
			b.Clean, b.Image = true, int(n)
			x.set("openings", b)
		case 1, 2:
			if v, e := x.version("openings"); v != reserved+1 || e != api.OK {
				t.Errorf("P10.2: opening %d: Version %d, %d, want %d", n, v, e, reserved+1)
			}
			reserved += 64
		case 3:
			x.wipe("openings")
			horizon, gen = reserved, gen+1
		}
		ahead := x.e.Block()
		if n%3 == 0 {
			x.both(func(d *flash.Dev) { d.Crash([]byte{1, 2}); d.On() })
		}
		e, was, err := Open(x.d.Copy(), x.p.g)
		want := super.Block{Seq: ahead.Seq + 1, Epoch: n, Reserved: reserved, Horizon: horizon, Gen: gen, Image: ahead.Image}
		if err != api.OK || was != ahead || e.Block() != want {
			t.Errorf("P10.1: opening %d: %+v, %d; %+v, want %+v", n, was, err, e.Block(), want)
		}
		if was.Clean != (n%5 == 0) {
			t.Errorf("P10.1: opening %d: Clean %t", n, was.Clean)
		}
		x.open("openings")
	}
}

func TestSet(t *testing.T) {
	x := begin(t, little())
	blocks := []super.Block{
		{},
		{Seq: 99, Epoch: 1, Reserved: 2, Horizon: 3, Gen: 4, Clean: true, Image: 5},
		{Seq: most, Epoch: most, Reserved: most, Horizon: most, Gen: most, Image: math.MaxInt32},
		{Image: math.MaxInt32 + 1}, {Image: -1}, {Image: math.MinInt}, {Image: math.MaxInt, Clean: true},
	}
	for i, b := range blocks {
		if e := x.set("Set", b); e != api.OK {
			t.Errorf("P10.1: Set(%+v): %d", b, e)
		}
		want := b
		want.Seq = uint64(i + 2)
		if b.Image < 0 || b.Image > math.MaxInt32 {
			want.Image = 0
		}
		if x.e.Block() != want {
			t.Errorf("P10.1: Block behind Set(%+v): %+v", b, x.e.Block())
		}
		if n, e := super.Load(x.d); n != want || e != api.OK || len(x.d.Waiting()) > 0 {
			t.Errorf("P10.1: what Set(%+v) stored: %+v, %d", b, n, e)
		}
		if _, was, e := Open(x.d.Copy(), little()); was != want || e != api.OK {
			t.Errorf("P10.1: Open behind Set(%+v): %+v, %d", b, was, e)
		}
	}
	b := x.e.Block()
	b.Gen = 77
	if x.e.Block().Gen == 77 {
		t.Errorf("R4: an answer of Block that is changed changes the block")
	}
}

func TestSetFails(t *testing.T) {
	x := begin(t, little())
	x.put("ahead", sized("a", 60, 9))
	ahead := x.e.Block()
	// the newest block bears the greatest Seq: none is stored behind it
	x.both(func(d *flash.Dev) { d.Write(1, super.Encode(super.Block{Seq: most})); d.Flush(); d.Arm(1) })
	for range 2 {
		if e := x.set("worn", super.Block{Horizon: 50}); e != api.EWORN || x.e.Block() != ahead {
			t.Errorf("P10.1: Set behind the greatest Seq: %d, %+v", e, x.e.Block())
		}
		if v, e := x.version("worn"); v != 0 || e != api.EWORN {
			t.Errorf("P10.2: Version behind the greatest Seq: %d, %d", v, e)
		}
		if e := x.wipe("worn"); e != api.EWORN || x.e.Block() != ahead {
			t.Errorf("P10.4: Wipe behind the greatest Seq: %d, %+v", e, x.e.Block())
		}
	}
	x.holds("R3: worn", "a")
	for step := 1; step <= 2; step++ {
		x := begin(t, little())
		x.put("ahead", sized("a", 60, 9))
		ahead := x.e.Block()
		x.both(func(d *flash.Dev) { d.Arm(step) })
		if e := x.set("cut", super.Block{Horizon: 50, Epoch: 9}); e != api.EOFF || x.e.Block() != ahead {
			t.Errorf("P10.1: Set that is cut at %d: %d, %+v", step, e, x.e.Block())
		}
		if e := x.set("done", super.Block{}); e != api.EOFF || x.e.Block() != ahead {
			t.Errorf("P10.1: Set of one that is done: %d, %+v", e, x.e.Block())
		}
	}
}

// What Set says of Horizon and Reserved holds from then on; its Gen is the journal's with the next Open.
func TestWhatSetSaysHolds(t *testing.T) {
	x := begin(t, little())
	for _, v := range []uint64{4, 5, 6} {
		x.put("Set", sized(fmt.Sprint("s", v), 60, v))
		x.put("Set", sized(fmt.Sprint("g", v), 300, v))
	}
	x.set("Set", super.Block{Horizon: 5, Reserved: 3})
	if got := names(x.e.Items()); got != "s66 g66" {
		t.Errorf("P10.3: Items behind Set of a Horizon: %s", got)
	}
	x.set("Set", super.Block{Horizon: 4, Reserved: 3})
	if got := len(x.e.Items()); got != 4 {
		t.Errorf("P10.3: %d Items behind Set of a lower Horizon", got)
	}
	x.holds("Set", "s4", "g4")
	for v := uint64(1); v <= 3; v++ {
		if got, e := x.version("Set"); got != v || e != api.OK || x.e.Block().Reserved != 3 {
			t.Errorf("P10.2: Version behind Set: %d, %d, %+v", got, e, x.e.Block())
		}
	}
	if got, e := x.version("Set"); got != 4 || e != api.OK || x.e.Block().Reserved != 67 {
		t.Errorf("P10.2: Version behind Set: %d, %d, %+v", got, e, x.e.Block())
	}
	// below the last version it is not met any more, till the next Open
	x.set("Set", super.Block{Horizon: 4, Reserved: 3})
	if got, e := x.version("Set"); got != 5 || e != api.OK || x.e.Block().Reserved != 3 {
		t.Errorf("P10.2: Version behind Set of a Reserved below it: %d, %d, %+v", got, e, x.e.Block())
	}
	b := x.e.Block()
	b.Gen = 7
	x.set("Set", b)
	x.remove("Set", "s5")
	if j, _ := tomb.Open(x.d, 2, 3, 0); !j.Gone(hash("s5"), 5) {
		t.Errorf("P10.4: a mark behind Set of another Gen: %v", j.Marks())
	}
	x.holds("Set of another Gen", "s5")
	x.wipe("Set")
	if x.e.Block().Gen != 8 || x.e.Block().Horizon != 5 {
		t.Errorf("P10.4: Wipe behind Set: %+v", x.e.Block())
	}
	x.remove("Set", "s6")
	if j, _ := tomb.Open(x.d, 2, 3, 8); !j.Gone(hash("s6"), 5) {
		t.Errorf("P10.4: a mark behind Wipe: %v", j.Marks())
	}
}

func TestVersions(t *testing.T) {
	x := begin(t, little())
	last := uint64(0)
	for opening := range 5 {
		if opening > 0 {
			last = x.e.Block().Reserved
			x.open("versions")
		}
		begun := last
		for range []int{1, 63, 64, 65, 200}[opening] {
			stores := x.d.Stat().Writes
			v, e := x.version("versions")
			if v != last+1 || e != api.OK {
				t.Fatalf("P10.2: Version: %d, %d, want %d", v, e, last+1)
			}
			last = v
			if want := begun + (last-begun+63)/64*64; x.e.Block().Reserved != want {
				t.Errorf("P10.2: Version %d: Reserved %d, want %d", v, x.e.Block().Reserved, want)
			}
			if stored := x.d.Stat().Writes - stores; stored != map[bool]int{true: 1}[(last-begun)%64 == 1] {
				t.Errorf("P10.2: Version %d of those behind %d: %d blocks are stored", v, begun, stored)
			}
		}
	}
}

// Near the greatest version: Reserved goes no further, and each is told once, over openings too.
func TestTheLastVersions(t *testing.T) {
	for _, left := range []uint64{0, 1, 2, 62, 63, 64, 65, 66, 128, 129} {
		d := device(t, Pages(little()))
		d.Write(1, super.Encode(super.Block{Seq: 1, Reserved: most - left}))
		d.Flush()
		x := beginOn(t, "the last versions", d, little())
		for n := range left {
			v, e := x.version("the last versions")
			if v != most-left+n+1 || e != api.OK {
				t.Fatalf("P10.2: %d are left: Version: %d, %d", left, v, e)
			}
			want := most
			if steps := n/64*64 + 64; steps < left {
				want = most - left + steps
			}
			if r := x.e.Block().Reserved; r != want {
				t.Errorf("P10.2: %d are left: Version %d, Reserved %d, want %d", left, v, r, want)
			}
		}
		if r := x.e.Block().Reserved; r != most {
			t.Errorf("P10.2: Reserved at the end: %d", r)
		}
		ahead := x.d.Copy()
		for range 3 {
			if v, e := x.version("the end"); v != 0 || e != api.EWORN {
				t.Errorf("P10.2: Version at the end: %d, %d", v, e)
			}
		}
		if differ(x.d, ahead) {
			t.Errorf("R3: Version at the end changes the device")
		}
		x.open("the end")
		if v, e := x.version("the end"); v != 0 || e != api.EWORN {
			t.Errorf("P10.2: Version at the end, opened anew: %d, %d", v, e)
		}
		x.d.Crash(nil)
		if v, e := x.e.Version(); v != 0 || e != api.EWORN {
			t.Errorf("P10.2: Version at the end, without power: %d, %d", v, e)
		}
	}
}

// What an opening did not tell of what it reserved is not told by the next one.
func TestVersionsNearTheEndOverOpenings(t *testing.T) {
	d := device(t, Pages(little()))
	d.Write(1, super.Encode(super.Block{Seq: 1, Reserved: most - 70}))
	d.Flush()
	x := beginOn(t, "near the end", d, little())
	var told []uint64
	for range 3 {
		v, _ := x.version("near the end")
		told = append(told, v)
		x.open("near the end")
	}
	if !slices.Equal(told, []uint64{most - 69, most - 5, 0}) {
		t.Errorf("P10.2: over openings: %v", told)
	}
}

func TestVersionWhereTheStoreFails(t *testing.T) {
	for _, told := range []int{0, 64, 128} {
		for step := 1; step <= 3; step++ {
			for pick := range 3 {
				x := begin(t, little())
				for range told {
					x.version("ahead")
				}
				ahead := x.e.Block()
				x.both(func(d *flash.Dev) { d.Arm(step) })
				v, e := x.version("cut")
				if step <= 2 && (v != 0 || e != api.EOFF || x.e.Block() != ahead) {
					t.Errorf("P10.2: Version that is cut at %d: %d, %d; %+v", step, v, e, x.e.Block())
				}
				if step == 3 && (v != uint64(told+1) || e != api.OK) {
					t.Errorf("P10.2: Version of two steps: %d, %d", v, e)
				}
				x.crash("cut", byte(pick))
				want := uint64(told + 1)
				if step == 3 || step == 2 && pick == 1 {
					want += 64
				}
				if v, e := x.version("behind"); v != want || e != api.OK {
					t.Errorf("P10.2: Version behind one that was cut at %d, pick %d: %d, %d, want %d", step, pick, v, e, want)
				}
			}
		}
	}
}

// Behind a loss of power the versions that are reserved are told as before; then it is EOFF.
func TestVersionOfOneThatIsDone(t *testing.T) {
	x := begin(t, little())
	for range 60 {
		x.version("ahead")
	}
	x.both(func(d *flash.Dev) { d.Crash(nil); d.On() })
	for v := uint64(61); v <= 64; v++ {
		if got, e := x.version("done"); got != v || e != api.OK {
			t.Errorf("P10.2: Version of one that is done: %d, %d", got, e)
		}
	}
	for range 2 {
		if got, e := x.version("done"); got != 0 || e != api.EOFF {
			t.Errorf("P10.2: Version of one that is done, at Reserved: %d, %d", got, e)
		}
	}
	x.open("done")
	if got, e := x.version("opened"); got != 65 || e != api.OK {
		t.Errorf("P10.2: Version of the next one: %d, %d", got, e)
	}
}

// laid makes a device by the layers below: a block, marks of its generation, and items in both stores.
func laid(t *testing.T, g Geometry, b super.Block, marks []tomb.Mark, small, great []api.Item) *flash.Dev {
	t.Helper()
	d := device(t, Pages(g))
	b.Seq = 1
	d.Write(1, super.Encode(b))
	j, _ := tomb.Open(d, 2, g.Journal, b.Gen)
	for _, m := range marks {
		if e := j.Add(m); e != api.OK {
			t.Fatalf("P6.2: Add: %d", e)
		}
	}
	s, _ := bucket.Open(d, 2+g.Journal, g.Buckets)
	for _, y := range small {
		if _, e := s.Put(y); e != api.OK {
			t.Fatalf("P8.1: Put: %d", e)
		}
	}
	l, _ := region.Open(d, 2+g.Journal+g.Buckets, g.Regions)
	for _, y := range great {
		if _, e := l.Put(y); e != api.OK {
			t.Fatalf("P9.2: Put: %d", e)
		}
	}
	l.Seal()
	d.Flush()
	return d
}

// The bucket has one, the log has one, both or neither, in each order of their versions, with a Horizon
// and a mark at, below and above them.
func TestGet(t *testing.T) {
	versions := []uint64{0, 1, 2, 3, 4}
	for _, small := range versions {
		for _, great := range versions {
			for horizon := range uint64(5) {
				for mark := range uint64(6) {
					get(t, small, great, horizon, mark)
				}
			}
		}
	}
}

// get holds Get against the items that are there: a version 0 is none, a mark 5 is none either.
func get(t *testing.T, small, great, horizon, mark uint64) {
	t.Helper()
	what := fmt.Sprintf("bucket %d, log %d, Horizon %d, mark %d", small, great, horizon, mark)
	var s, l []api.Item
	var m []tomb.Mark
	var want api.Item
	counts := func(v uint64) bool { return v > horizon && (mark == 5 || v > mark) }
	if great > 0 {
		l = append(l, api.Item{Key: "a", Value: "great", Version: great})
		if counts(great) {
			want = l[0]
		}
	}
	if small > 0 {
		s = append(s, api.Item{Key: "a", Value: "small", Version: small})
		if counts(small) && small >= want.Version {
			want = s[0]
		}
	}
	if mark < 5 {
		m = append(m, tomb.Mark{Key: hash("a"), Version: mark}, tomb.Mark{Key: hash("b"), Version: 9})
	}
	d := laid(t, little(), super.Block{Horizon: horizon, Gen: 3}, m, s, l)
	x := beginOn(t, what, d, little())
	x.holds(what, "a")
	y, e := x.e.Get("a")
	var items []api.Item
	if want.Version == 0 {
		if y != (api.Item{}) || e != api.ENONE {
			t.Errorf("P10.3: %s: Get: %v, %d, want none", what, y, e)
		}
	} else {
		items = append(items, want)
		if y != want || e != api.OK {
			t.Errorf("P10.3: %s: Get: %v, %d, want %v", what, y, e, want)
		}
	}
	if l := x.e.Items(); !slices.Equal(l, items) {
		t.Errorf("P10.3: %s: Items: %v, want %v", what, l, items)
	}
	if x.e.May("a") != (small > 0 || great > 0) {
		t.Errorf("P10.3: %s: May: %t", what, x.e.May("a"))
	}
}

// An item that stands in both stores, the same in all, is told once.
func TestTheSameInBoth(t *testing.T) {
	y := sized("a", 60, 5)
	d := laid(t, little(), super.Block{}, nil, []api.Item{y, sized("b", 60, 4)}, []api.Item{sized("c", 60, 6), y})
	e, _, err := Open(d, little())
	if err != api.OK {
		t.Fatalf("P10.1: Open: %d", err)
	}
	l := e.Items()
	if slices.SortFunc(l, func(a, b api.Item) int { return strings.Compare(a.Key, b.Key) }); names(l) != "a5 b4 c6" {
		t.Errorf("P10.3: Items: %s", names(l))
	}
}

// A page by hand: a key that stands twice in it, and one whose bucket is another. Items tells what Get tells.
func TestItemsOfAPageByHand(t *testing.T) {
	a, b := keysOf(2, 0, 2), keysOf(1, 1, 2)[0]
	l := []api.Item{sized(a[0], 50, 1), sized(a[0], 60, 2), sized(a[1], 50, 3), sized(b, 50, 4)}
	page, _ := rec.Lay(l, api.PageSize)
	d := device(t, Pages(little()))
	d.Write(5, page)
	x := beginOn(t, "a page by hand", d, little())
	if got := x.e.Items(); !slices.Equal(got, []api.Item{l[0], l[2]}) {
		t.Errorf("P10.3: Items of a page by hand: %s", short(got...))
	}
	x.holds("a page by hand", a[0], a[1], b)
	x.put("a page by hand", sized(a[0], 600, 5))
	x.put("a page by hand", sized(b, 60, 6))
	x.holds("a page by hand", a[0], a[1], b)
}

// At the edges of numbers: the greatest Horizon lets nothing count, the greatest mark none of its key.
func TestCountsAtTheEdges(t *testing.T) {
	small := []api.Item{sized("s1", 60, most-1), sized("s2", 60, most)}
	great := []api.Item{sized("g1", 300, most-1), sized("g2", 300, most)}
	for _, c := range []struct {
		horizon uint64
		marks   []tomb.Mark
		want    []string
	}{
		{0, nil, []string{"g1", "g2", "s1", "s2"}},
		{most - 2, nil, []string{"g1", "g2", "s1", "s2"}},
		{most - 1, nil, []string{"g2", "s2"}},
		{most, nil, nil},
		{0, []tomb.Mark{{Key: hash("s2"), Version: most - 1}, {Key: hash("g1"), Version: most - 1}}, []string{"g2", "s1", "s2"}},
		{0, []tomb.Mark{{Key: hash("s2"), Version: most}, {Key: hash("g2"), Version: most}}, []string{"g1", "s1"}},
		{most - 1, []tomb.Mark{{Key: hash("s2"), Version: most}}, []string{"g2"}},
		{0, []tomb.Mark{{Key: hash("s1"), Version: 0}, {Key: hash("g1"), Version: 0}}, []string{"g1", "g2", "s1", "s2"}},
	} {
		e, _, err := Open(laid(t, little(), super.Block{Horizon: c.horizon}, c.marks, small, great), little())
		if err != api.OK {
			t.Fatalf("P10.1: Open: %d", err)
		}
		var got []string
		for _, x := range e.Items() {
			got = append(got, x.Key)
		}
		if slices.Sort(got); !slices.Equal(got, c.want) {
			t.Errorf("P10.3: Horizon %d, marks %v: %v, want %v", c.horizon, c.marks, got, c.want)
		}
		for _, key := range []string{"g1", "g2", "s1", "s2"} {
			if _, err := e.Get(key); (err == api.OK) != slices.Contains(c.want, key) {
				t.Errorf("P10.3: Horizon %d, marks %v: Get(%s): %d", c.horizon, c.marks, key, err)
			}
		}
	}
}

// Marks of another generation do not hold.
func TestMarksOfAnotherGeneration(t *testing.T) {
	marks := []tomb.Mark{{Key: hash("a"), Version: 9}}
	d := laid(t, little(), super.Block{Gen: 4}, marks, []api.Item{sized("a", 60, 5)}, nil)
	d.Write(0, super.Encode(super.Block{Seq: 2, Gen: 5}))
	d.Flush()
	x := beginOn(t, "another generation", d, little())
	if y, e := x.e.Get("a"); y.Version != 5 || e != api.OK {
		t.Errorf("P10.3: a mark of another generation: %v, %d", y, e)
	}
	x.remove("another generation", "a")
	x.holds("another generation", "a")
	if j, _ := tomb.Open(d, 2, 3, 5); j.Room() != 2 {
		t.Errorf("P10.4: the journal of Gen 5: %d pages are left", j.Room())
	}
}

// wrong are items that are not Good.
func wrong() []api.Item {
	return []api.Item{
		{}, {Key: "k"}, {Version: 1}, {Value: "v", Version: 1}, {Key: "k", Value: "v"},
		{Key: strings.Repeat("k", 251), Version: 1},
		{Key: strings.Repeat("k", 300), Version: 1},
		{Key: "k", Value: strings.Repeat("v", 1025), Version: 1},
		{Key: strings.Repeat("k", 250), Value: strings.Repeat("v", 1025), Version: 1},
		{Key: strings.Repeat("k", 251), Value: strings.Repeat("v", 1024), Version: most},
		{Key: "k", Value: strings.Repeat("v", 1024)},
		// greater than a region: these are not Good, and that is named first
		sized("k", 1472, 1), sized("k", 1473, 1), sized(strings.Repeat("k", 250), 1472, 1), sized(strings.Repeat("k", 250), 1473, 1),
		sized(strings.Repeat("k", 416), 1472, 1), sized(strings.Repeat("k", 417), 1473, 1), sized("k", 100000, 1),
	}
}

func (x *pair) refuses(what string) {
	x.t.Helper()
	for _, y := range wrong() {
		if e := x.put(what, y); e != api.EARG {
			x.t.Errorf("P10.3: %s: Put of a key of %d and a value of %d bytes, version %d: %d", what, len(y.Key), len(y.Value), y.Version, e)
		}
	}
	x.holds("R3: "+what+": behind Puts that are refused", "k")
}

func TestPutRefused(t *testing.T) {
	x := begin(t, little())
	x.refuses("a new device")
	for i := range 12 {
		x.put("refused", sized(fmt.Sprint("k", i), 60+80*(i%4), uint64(i+1)))
	}
	x.refuses("items")
	x.both(func(d *flash.Dev) { d.Arm(1) })
	x.refuses("an armed device")
	x.both(func(d *flash.Dev) { d.Crash(nil) })
	x.refuses("the power is off")
	x.both(func(d *flash.Dev) { d.On() })
	x.refuses("the engine is done")
}

// A small one goes to its bucket, a greater one to the log: at the bound, and on both sides of it.
func TestPutOfEachSize(t *testing.T) {
	for _, key := range []string{"k", "key", strings.Repeat("k", 87), strings.Repeat("k", 88), strings.Repeat("k", 89), strings.Repeat("k", 250)} {
		least := 32 + len(key)
		for _, size := range []int{least, least + 1, 118, 119, 120, 121, 122, 383, 384, 385, least + 1023, least + 1024} {
			if size < least || size > least+1024 {
				continue
			}
			x := begin(t, little())
			y := sized(key, size, most)
			y.Flags, y.Exp = math.MaxUint32, math.MinInt64
			if e := x.put("each size", y); e != api.OK {
				t.Errorf("P10.3: Put of %d bytes: %d", size, e)
			}
			waits := len(x.d.Waiting())
			if size <= 120 && waits != 1 || size > 120 && waits != 0 {
				t.Errorf("P10.3: Put of %d bytes: %v wait", size, x.d.Waiting())
			}
			if got, e := x.e.Get(key); got != y || e != api.OK || !x.e.May(key) {
				t.Errorf("P10.3: Get of %d bytes: %s, %d", size, short(got), e)
			}
			if l := x.e.Items(); !slices.Equal(l, []api.Item{y}) {
				t.Errorf("P10.3: Items of %d bytes: %s", size, short(l...))
			}
			x.holds("each size", key)
			x.settle("each size")
			x.crash("each size")
			if got, e := x.e.Get(key); got != y || e != api.OK {
				t.Errorf("P10.4: what was settled, behind a crash: %d bytes: %d", size, e)
			}
		}
	}
}

// One key small, then great, then small again, with rising, falling and the same versions: what was put
// last is told.
func TestPutOfOneKey(t *testing.T) {
	for _, versions := range [][]uint64{{1, 2, 3, 4}, {4, 3, 2, 1}, {5, 5, 5, 5}, {1, 9, 2, 8}, {9, 1, 8, 2}} {
		for _, sizes := range [][]int{{60, 300, 70, 310}, {300, 60, 310, 70}, {60, 61, 300, 301}, {300, 301, 60, 61}, {120, 121, 120, 121}} {
			x := begin(t, little())
			x.put("beside", sized("b", 60, 1))
			x.put("beside", sized("c", 300, 1))
			for i, size := range sizes {
				y := sized("a", size, versions[i])
				if e := x.put("one key", y); e != api.OK {
					t.Errorf("P10.3: Put: %d", e)
				}
				if got, e := x.e.Get("a"); got != y || e != api.OK {
					t.Errorf("P10.3: sizes %v, versions %v: Get behind number %d: %s, %d", sizes, versions, i, short(got), e)
				}
				if l := x.e.Items(); len(l) != 3 || !slices.Contains(l, y) {
					t.Errorf("P10.3: sizes %v, versions %v: Items: %s", sizes, versions, short(l...))
				}
				x.holds("one key", "a")
			}
			x.settle("one key")
			x.open("one key")
			x.holds("one key, opened anew", "a")
		}
	}
}

// What is left out for a small one is flushed at once: it stays out, whatever crash comes.
func TestLeftOut(t *testing.T) {
	for pick := range 3 {
		x := begin(t, little())
		keys := keysOf(6, 1, 2)
		for i, key := range keys[:3] {
			x.put("ahead", sized(key, 120, uint64(i+1)))
		}
		x.settle("ahead")
		flushes := x.d.Stat().Flushes
		x.put("it has room", sized(keys[0], 100, 4)) // in place of the one that was there
		if s := x.d.Stat(); s.Flushes != flushes || len(x.d.Waiting()) != 1 {
			t.Errorf("P10.3: a Put that leaves nothing out is flushed: %+v", s)
		}
		x.put("it has none", sized(keys[3], 120, 5))
		if s := x.d.Stat(); s.Flushes != flushes+1 || len(x.d.Waiting()) != 0 {
			t.Errorf("P10.3: a Put that leaves one out is not flushed: %+v, %v wait", s, x.d.Waiting())
		}
		if _, e := x.e.Get(keys[1]); e != api.ENONE {
			t.Errorf("P10.3: what is left out: %d", e)
		}
		x.put("the other bucket", sized(keysOf(1, 0, 2)[0], 60, 6))
		x.put("the same bucket", sized(keys[3], 120, 7))
		x.crash("left out", byte(pick), byte(pick))
		if y, e := x.e.Get(keys[1]); e != api.ENONE {
			t.Errorf("P10.5: what was left out is there behind a crash: %v, pick %d", y, pick)
		}
	}
}

// numberAt lets the log's number be one by a page that does not count.
func numberAt(t *testing.T, n uint64) *pair {
	g := little()
	d := device(t, Pages(g))
	d.Write(2+g.Journal+g.Buckets+4*g.Regions-1, []byte{82, 71, 0, 0, 0, 0, 0, 0, byte(n), byte(n >> 8), byte(n >> 16), byte(n >> 24), byte(n >> 32), byte(n >> 40), byte(n >> 48), byte(n >> 56)})
	d.Flush()
	return beginOn(t, "a number by hand", d, g)
}

// The log has no number left: a Put that must seal is EWORN, and changes nothing; so is Settle, ahead of
// the flush.
func TestWornLog(t *testing.T) {
	x := numberAt(t, most)
	x.put("small", sized("a", 60, 1))
	x.put("small", sized("b", 60, 1))
	x.put("there is room", sized("g", 1000, 2))
	x.both(func(d *flash.Dev) { d.Arm(1) })
	ahead := x.d.Copy()
	for range 2 {
		if e := x.put("no number is left", sized("a", 1000, 3)); e != api.EWORN {
			t.Errorf("P10.3: Put where the log is worn: %d", e)
		}
		if e := x.put("no number is left", sized("new", 1000, 3)); e != api.EWORN || x.e.May("new") {
			t.Errorf("P10.3: Put where the log is worn: %d", e)
		}
		if e := x.settle("no number is left"); e != api.EWORN {
			t.Errorf("P10.4: Settle where the log is worn: %d", e)
		}
		if y, e := x.e.Get("a"); y != sized("a", 60, 1) || e != api.OK {
			t.Errorf("R3: what the bucket had: %v, %d", y, e)
		}
		x.holds("no number is left", "a", "new", "g")
	}
	if differ(x.d, ahead) || !x.d.Power() {
		t.Errorf("R3: EWORN changes the device")
	}
}

// The error of each step of a Put, and what was done ahead of it.
func TestPutThatIsCut(t *testing.T) {
	keys := keysOf(5, 0, 2)
	full := func() *pair { // the bucket 0 is full, the log has two regions, its open one has no room
		x := begin(t, little())
		for i, key := range keys[:3] {
			x.put("ahead", sized(key, 120, uint64(i+1)))
		}
		for i := range 3 {
			x.put("ahead", sized(fmt.Sprint("g", i), 1000, uint64(i+4)))
		}
		x.d.Flush()
		x.p.d.Flush()
		return x
	}
	for _, c := range []struct {
		name  string
		y     api.Item
		steps int
	}{
		{"small, in place of one", sized(keys[0], 90, 9), 1},
		{"small, and one is left out", sized(keys[3], 120, 9), 2},
		{"small, of a key of the log", sized("g1", 60, 9), 1},
		{"great, sealed", sized("new", 1000, 9), 5},
		{"great, with room", sized("new", 472, 9), 0},
		{"great, with room, of a key of the bucket", sized(keys[1], 472, 9), 1},
		{"great, sealed, of a key of the bucket", sized(keys[1], 1000, 9), 6},
	} {
		for step := 1; step <= c.steps+1; step++ {
			x := full()
			ahead := x.e.Items()
			x.both(func(d *flash.Dev) { d.Arm(step) })
			e := x.put("cut", c.y)
			if step <= c.steps && e != api.EOFF || step > c.steps && e != api.OK {
				t.Errorf("P10.3: %s: cut at %d: %d", c.name, step, e)
			}
			x.holds("cut: "+c.name, keys...)
			if step > c.steps {
				continue
			}
			if x.d.Power() || x.e.Put(c.y) != api.EOFF {
				t.Errorf("P10.3: %s: cut at %d: Put goes on", c.name, step)
			}
			// with picks 0 all is as it was, but the log's open region; behind the Seal (of five steps) that one
			// is there, and what stood in its place is not
			x.crash("cut: " + c.name)
			none := "g2"
			if step > 5 {
				none = "g0"
			}
			for _, y := range ahead {
				got, e := x.e.Get(y.Key)
				if y.Key == none && e != api.ENONE || y.Key != none && (got != y || e != api.OK) {
					t.Errorf("P10.3: %s: cut at %d, all picks 0: Get(%s): %s, %d", c.name, step, y.Key, short(got), e)
				}
			}
		}
	}
}

// Items tells bucket by bucket, then region by region, the open one last.
func TestItemsInOrder(t *testing.T) {
	g := Geometry{Journal: 1, Buckets: 3, Regions: 3}
	x := begin(t, g)
	var want []string
	for at := range 3 {
		want = append(want, keysOf(3, at, 3)...)
	}
	for _, i := range []int{8, 3, 0, 6, 4, 1, 7, 2, 5} {
		x.put("order", sized(want[i], 50, uint64(i+1)))
	}
	// in a bucket they stand in the order of their Puts
	want = []string{want[0], want[1], want[2], want[3], want[4], want[5], want[8], want[6], want[7]}
	for i := range 7 {
		key := fmt.Sprint("great", 9-i)
		x.put("order", sized(key, 600, uint64(20+i)))
		want = append(want, key)
	}
	if got := keysIn(x.e.Items()); !slices.Equal(got, want) {
		t.Errorf("P10.3: Items: %v, want %v", got, want)
	}
	x.holds("order")
	x.remove("order", want[0], want[10])
	x.put("order", sized(want[12], 60, 40))
	x.put("order", sized(want[3], 600, 41))
	x.holds("order", want...)
	x.settle("order")
	x.open("order")
	x.holds("order, opened anew", want...)
}

func keysIn(l []api.Item) []string {
	var out []string
	for _, x := range l {
		out = append(out, x.Key)
	}
	return out
}

func TestItemsWithoutPower(t *testing.T) {
	x := begin(t, little())
	if l := x.e.Items(); len(l) > 0 {
		t.Errorf("P10.3: Items of a new one: %v", l)
	}
	x.put("ahead", sized("a", 60, 1))
	x.put("ahead", sized("g", 600, 2))
	x.both(func(d *flash.Dev) { d.Crash(nil) })
	if l := x.e.Items(); len(l) > 0 {
		t.Errorf("P10.3: Items without power: %v", l)
	}
	x.both(func(d *flash.Dev) { d.On() })
	if l := x.e.Items(); len(l) > 0 {
		t.Errorf("P10.3: Items of one that is done: %v", l)
	}
}

// May is the bucket's or the log's: it is not asked what counts.
func TestMay(t *testing.T) {
	x := begin(t, little())
	if x.e.May("a") || x.e.May("g") || x.e.May("") {
		t.Errorf("P10.3: May of a new one")
	}
	x.version("May")
	x.put("May", sized("a", 60, 1))
	x.put("May", sized("g", 600, 1))
	for range 2 {
		if !x.e.May("a") || !x.e.May("g") {
			t.Errorf("P10.3: May of what was put: %t, %t", x.e.May("a"), x.e.May("g"))
		}
		x.remove("May", "a", "g")
	}
	x.wipe("May")
	if !x.e.May("a") || !x.e.May("g") || len(x.e.Items()) > 0 {
		t.Errorf("P10.3: May of what was removed: %t, %t", x.e.May("a"), x.e.May("g"))
	}
	reads := x.d.Stat().Reads
	for _, key := range append(strange(), "a", "g") {
		if x.e.May(key) != x.p.may(key) {
			t.Errorf("P10.3: May(%.20q)", key)
		}
	}
	if x.d.Stat().Reads != reads {
		t.Errorf("P10.3: May reads the device")
	}
	x.put("May", sized("a", 600, 2)) // the bucket's filter forgets none, the log has it
	x.put("May", sized("g", 60, 2))  // the log forgets
	x.holds("May", "a", "g")
}

// A key that the bucket's filter says no of is told without reading.
func TestGetReads(t *testing.T) {
	x := begin(t, little())
	x.put("reads", sized("a", 60, 1))
	x.put("reads", sized("g", 600, 1))
	for key, want := range map[string]int{"a": 1, "g": 0, "nobody": 0} {
		if x.p.filter(key).May(key) != (want == 1) {
			t.Fatalf("P7.1: the filter says another thing of %s", key)
		}
		reads := x.d.Stat().Reads
		x.e.Get(key)
		if n := x.d.Stat().Reads - reads; n != want {
			t.Errorf("P10.3: Get(%s): %d pages are read, want %d", key, n, want)
		}
	}
}
