package engine

import (
	"bytes"
	"encoding/binary"
	"fmt"
	"math/rand"
	"testing"

	"cellaret/api"
	"cellaret/flash"
	"cellaret/super"
)

// runner goes on with one engine, and with a plain one beside it.
type runner struct {
	*pair
	r     *rand.Rand
	tidy  bool // each key is removed ahead of each later Put, and its version is told by Version, as hybrid does
	was   map[string]bool
	last  uint64
	books ledger
}

func (x *runner) key() string { return fmt.Sprint("key", x.r.Intn(24)) }

func (x *runner) keys(n int) []string {
	var l []string
	for range n {
		l = append(l, x.key())
	}
	return l
}

func (x *runner) item() api.Item {
	key := x.key()
	least := 32 + len(key)
	y := sized(key, least+x.r.Intn(100), 1+uint64(x.r.Intn(300)))
	y.Flags, y.Exp = x.r.Uint32(), int64(x.r.Uint64())
	if x.r.Intn(2) == 0 {
		y.Value += string(bytes.Repeat([]byte{'w'}, 80+x.r.Intn(600)))
	}
	switch x.r.Intn(60) {
	case 0:
		y.Version = 0
	case 1:
		y.Key = ""
	case 2:
		y.Value = string(bytes.Repeat([]byte{'w'}, 1024+x.r.Intn(3)))
	case 3:
		y.Version = x.r.Uint64()
	}
	return y
}

// tell asks for a version: they rise, over all openings, whichever engine tells them.
func (x *runner) tell() (uint64, api.Errno) {
	v, e := x.version("run")
	if e == api.OK {
		if v <= x.last {
			x.t.Errorf("P10.2: Version %d behind %d", v, x.last)
		}
		x.last = v
	}
	return v, e
}

func (x *runner) put() {
	y := x.item()
	if x.tidy {
		if x.was[y.Key] && x.remove(y.Key) != api.OK {
			return
		}
		v, e := x.tell()
		if e != api.OK {
			return
		}
		y.Version = v
	}
	x.was[y.Key] = true
	delete(x.books.none, y.Key)
	x.pair.put("run", y)
}

func (x *runner) remove(keys ...string) api.Errno {
	e := x.pair.remove("run", keys...)
	for _, key := range keys {
		if e == api.OK {
			x.books.gone[key] = max(x.books.gone[key], x.p.last)
		}
	}
	return e
}

// spoil writes to a page behind the engine's back: not to the block's, nor to the journal's.
func (x *runner) spoil() {
	first := 2 + x.p.g.Journal
	at := first + x.r.Intn(x.d.Pages()-first)
	b := append([]byte{82, 71, byte(x.r.Intn(5)), 0}, make([]byte, 4)...)
	b = binary.LittleEndian.AppendUint64(b, uint64(x.r.Intn(20)))
	switch x.r.Intn(3) {
	case 0:
		b = []byte{3, 3, 3}
	case 1:
		b = nil
	}
	x.both(func(d *flash.Dev) { d.Write(at, b) })
}

func (x *runner) power() {
	switch x.r.Intn(6) {
	case 0, 1:
		n := x.r.Intn(14)
		x.both(func(d *flash.Dev) { d.Arm(n) })
	case 2, 3, 4:
		picks := make([]byte, x.r.Intn(8))
		x.r.Read(picks)
		x.both(func(d *flash.Dev) { d.Crash(picks) })
	case 5:
		x.both(func(d *flash.Dev) { d.On() })
	}
}

func (x *runner) step() {
	switch n := x.r.Intn(100); {
	case n < 4:
		x.power()
	case n < 16:
		if !x.d.Power() && x.r.Intn(4) > 0 {
			x.both(func(d *flash.Dev) { d.On() })
		}
		if !x.d.Power() || x.p.done() || x.r.Intn(5) == 0 {
			x.open("run")
		}
	case n < 20:
		x.settle("run")
	case n < 21:
		x.wipe("run")
	case n < 31:
		x.remove(x.keys(x.r.Intn(4))...)
	case n < 32:
		x.remove(x.keys(60)...)
	case n < 40:
		x.tell()
	case n < 41 && !x.tidy:
		x.spoil()
	case n < 43 && !x.tidy:
		b := x.p.block
		b.Clean, b.Image, b.Horizon = x.r.Intn(2) == 0, x.r.Intn(9), uint64(x.r.Intn(40))
		x.set("run", b)
	case n < 43:
		b := x.p.block
		b.Clean, b.Image = true, x.r.Intn(9)
		x.set("run", b)
	default:
		x.put()
	}
}

// holdsAll holds the engine, done or not, against the plain one, and both against the books.
func (x *runner) holdsAll(what string) {
	var keys []string
	for n := range 24 {
		keys = append(keys, fmt.Sprint("key", n))
	}
	x.holds(what, keys...)
	if !x.tidy {
		return
	}
	for _, key := range keys {
		y, e := x.e.Get(key)
		switch {
		case e == api.ENONE:
			x.books.none[key] = true
		case e == api.OK && x.books.none[key]:
			x.t.Errorf("P10.5: %s: %s was told to be none, and is back: %s", what, key, short(y))
		case e == api.OK && y.Version <= x.books.gone[key]:
			x.t.Errorf("P10.5: %s: %s was removed up to %d, and is back: %s", what, key, x.books.gone[key], short(y))
		case e == api.OK && !x.ever[y]:
			x.t.Errorf("P10.3: %s: what nobody put is told: %s", what, short(y))
		}
	}
}

func run(t *testing.T, seed int64, tidy bool) {
	geometries := []Geometry{{1, 1, 1, 0}, {3, 2, 2, 0}, {2, 4, 3, 2}, {8, 3, 1, 0}, {5, 1, 5, 0}}
	g := geometries[seed%int64(len(geometries))]
	x := &runner{pair: begin(t, g), r: rand.New(rand.NewSource(seed)), tidy: tidy, was: map[string]bool{}}
	x.books = ledger{none: map[string]bool{}, gone: map[string]uint64{}}
	for k := range 500 {
		x.step()
		x.holdsAll(fmt.Sprintf("run %d, step %d", seed, k))
		if t.Failed() {
			return
		}
	}
}

// All the calls in whatever order, with pages spoilt and Horizons set behind the engine's back.
func TestALongRun(t *testing.T) {
	for seed := range int64(30) {
		t.Run(fmt.Sprint(seed), func(t *testing.T) { t.Parallel(); run(t, seed, false) })
	}
}

// All the calls as hybrid calls them: nothing comes back.
func TestALongTidyRun(t *testing.T) {
	for seed := range int64(40) {
		t.Run(fmt.Sprint(seed), func(t *testing.T) { t.Parallel(); run(t, seed, true) })
	}
}

// A run without a crash: what is told is what was put last, or it was left out or lost; and behind each
// clean end all is there again.
func TestNothingIsLostWithoutNeed(t *testing.T) {
	g := Geometry{Journal: 8, Buckets: 64, Regions: 16}
	x := begin(t, g)
	r := rand.New(rand.NewSource(3))
	now := map[string]api.Item{}
	for turn := range 400 {
		key := fmt.Sprint("key", r.Intn(20))
		if _, ok := now[key]; ok || turn%7 == 0 {
			x.remove("no crash", key)
			delete(now, key)
		}
		v, _ := x.version("no crash")
		y := sized(key, 60+r.Intn(2)*(100+r.Intn(200)), v)
		x.put("no crash", y)
		now[key] = y
		if turn%50 == 49 { // the log is settled seldom: so that no region is written over with what is needed
			x.settle("no crash")
			b := x.e.Block()
			b.Clean = true
			x.set("no crash", b)
			x.crash("a clean end", 2, 2, 2)
		}
		for key, y := range now {
			got, e := x.e.Get(key)
			if e == api.ENONE && x.e.Block().Horizon >= y.Version {
				delete(now, key) // the journal was full
				continue
			}
			if got != y || e != api.OK {
				t.Fatalf("P10.3: turn %d: Get(%s): %s, %d, want %s", turn, key, short(got), e, short(y))
			}
		}
		if l := x.e.Items(); len(l) != len(now) {
			t.Fatalf("P10.3: turn %d: %d are told, want %d", turn, len(l), len(now))
		}
	}
	if b := x.e.Block(); b.Epoch != 9 || b.Gen == 0 || b == (super.Block{}) {
		t.Errorf("P10.1: behind eight openings: %+v", b)
	}
}
