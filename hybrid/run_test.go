package hybrid

import (
	"fmt"
	"math/rand"
	"slices"
	"testing"

	"cellaret/api"
	"cellaret/dram"
	"cellaret/engine"
	"cellaret/flash"
	"cellaret/super"
)

// runner goes on with one store: each of its calls is held against the plain store and the plain map.
type runner struct {
	*pair
	r     *rand.Rand
	keys  int
	pages int
	now   int64
}

func (x *runner) key() string { return fmt.Sprint("k", x.r.Intn(x.keys)) }

// time is near the clock, and now and then behind it.
func (x *runner) time() int64 {
	x.now += int64(x.r.Intn(3))
	if x.r.Intn(10) == 0 {
		return x.now - int64(x.r.Intn(6))
	}
	return x.now
}

func (x *runner) item() api.Item {
	key := x.key()
	sizes := []int{40, 60, 64, 65, 100, 120, 121, 200, 256, 400, 700, 1024, 1050}
	y := sized(key, sizes[x.r.Intn(len(sizes))])
	y.Flags = x.r.Uint32()
	switch x.r.Intn(4) {
	case 0:
		y.Exp = x.now + int64(x.r.Intn(30)) - 3
	case 1:
		y.Version = x.r.Uint64()
	}
	if x.r.Intn(50) == 0 {
		l := noGood()
		y = l[x.r.Intn(len(l))]
	}
	return y
}

func (x *runner) picks() []byte {
	p := make([]byte, x.r.Intn(9))
	x.r.Read(p)
	return p
}

// power lets it go in one of the ways, and comes: a store that is done may be called further.
func (x *runner) power() {
	switch x.r.Intn(4) {
	case 0, 1:
		n := x.r.Intn(12)
		x.arm(n)
	case 2:
		p := x.picks()
		x.both(func(d *flash.Dev) { d.Crash(p) })
	default:
		x.both(func(d *flash.Dev) { d.On() })
	}
}

// reopen opens it anew, if it is done, or now and then without need.
func (x *runner) reopen() {
	if x.p.done() || x.r.Intn(6) == 0 {
		p := x.picks()
		x.both(func(d *flash.Dev) { d.Crash(p); d.On() })
		if x.r.Intn(8) == 0 {
			x.arm(1 + x.r.Intn(8))
		}
		x.open(x.pages+x.r.Intn(2), x.time())
	}
}

// end ends it; behind an end nothing is promised of the store: so it is opened anew.
func (x *runner) end() {
	if x.shutdown() != api.OK {
		x.both(func(d *flash.Dev) { d.Crash(nil); d.On() })
	}
	if x.r.Intn(8) == 0 {
		x.arm(1 + x.r.Intn(8))
	}
	for x.open(x.pages+x.r.Intn(2), x.time()) != api.OK {
		x.both(func(d *flash.Dev) { d.On() })
	}
}

func (x *runner) step() {
	switch n := x.r.Intn(200); {
	case n < 5:
		x.power()
	case n < 25:
		x.reopen()
	case n < 29:
		x.end()
	case n < 30:
		x.wipe()
	case n < 110:
		x.set(x.item(), x.time())
	case n < 180:
		x.get(x.key(), x.time())
	default:
		x.remove(x.key(), x.time())
	}
}

// holds asks each key in the end.
func (x *runner) holds() {
	for k := range x.keys {
		x.get(fmt.Sprint("k", k), x.now)
	}
}

func newRunner(t *testing.T, d *flash.Dev, g engine.Geometry, seed int64) *runner {
	t.Helper()
	r := rand.New(rand.NewSource(seed))
	pages := 1 + r.Intn(3)
	return &runner{pair: beginOn(t, d, g, pages), r: r, keys: 3 + r.Intn(30), pages: pages}
}

func (x *runner) run(steps int) {
	for range steps {
		x.step()
		if x.t.Failed() {
			return
		}
	}
	x.holds()
}

func TestLongRuns(t *testing.T) {
	shapes := []engine.Geometry{shape(1, 1, 1, 0), shape(2, 2, 2, 4), shape(8, 4, 3, 20), shape(3, 1, 5, 40), shape(30, 16, 2, 12), shape(64, 64, 16, 60)}
	for seed := range int64(60) {
		t.Run(fmt.Sprint(seed), func(t *testing.T) {
			t.Parallel()
			g := shapes[seed%int64(len(shapes))]
			newRunner(t, device(t, engine.Pages(g)+int(seed%3)), g, seed).run(700)
		})
	}
}

// Near the ends of all numbers: what is worn stays worn.
func TestLongRunsOfWhatIsWorn(t *testing.T) {
	for seed := range int64(20) {
		t.Run(fmt.Sprint(seed), func(t *testing.T) {
			t.Parallel()
			g := shape(2, 2, 2, 12)
			d := wornLog(t, g)
			switch seed % 3 {
			case 1:
				d = numbered(t, g, blockAt(most-10))
			case 2:
				d = numbered(t, g, super.Block{Seq: 8, Reserved: most - 150, Horizon: most - 200})
			}
			x := newRunner(t, d, g, seed)
			for range 300 {
				switch n := x.r.Intn(20); {
				case n < 10:
					x.set(x.item(), x.time())
				case n < 16:
					x.get(x.key(), x.time())
				case n < 19:
					x.remove(x.key(), x.time())
				default:
					x.wipe()
				}
			}
			x.shutdown()
		})
	}
}

// move does one of fifteen calls on three keys.
func (x *pair) move(m, at int) {
	x.t.Helper()
	key := []string{"a", "b", "s"}[m%3]
	switch {
	case m < 3:
		x.set(timed(key, 1050, int64(at%2*5)), 0)
	case m < 6:
		x.set(sized(key, 60), 0)
	case m < 9:
		x.get(key, int64(4+at%2))
	case m < 12:
		x.remove(key, int64(4+at%2))
	case m == 12:
		x.wipe()
	case m == 13:
		x.again(1, 4)
	default:
		x.crash(1, 4, byte(at), 1, 2)
	}
}

// All runs of three calls, on a new store and on one that has something.
func TestAllShortRuns(t *testing.T) {
	const moves = 15
	for first := range moves {
		t.Run(fmt.Sprint(first), func(t *testing.T) {
			t.Parallel()
			for k := range moves * moves {
				x := begin(t, 1)
				for at, m := range []int{first, k % moves, k / moves} {
					x.move(m, at)
				}
				y := bothHave(t, timed("a", 1050, 5))
				y.sets(sized("s", 60))
				for at, m := range []int{first, k % moves, k / moves} {
					y.move(m, at)
				}
				if t.Failed() {
					t.Fatalf("the run %d, %d, %d", first, k%moves, k/moves)
				}
			}
		})
	}
}

// T4: with at most as many keys as pages, and no crash, the store is the plain map: nothing is lost; behind a
// clean end neither, if the image has room.
func TestNothingIsLost(t *testing.T) {
	for pages := 1; pages <= 6; pages++ {
		g := shape(64, 4, 2, 4*pages)
		x := &runner{pair: beginOn(t, device(t, engine.Pages(g)), g, pages), r: rand.New(rand.NewSource(int64(pages))), keys: pages, pages: pages}
		plainMap := map[string]api.Item{}
		for turn := range 700 {
			x.now++
			switch n := x.r.Intn(100); {
			case n < 50:
				y := x.item()
				if v, e := x.set(y, x.now); e == api.OK {
					y.Version = v
					plainMap[y.Key] = y
				}
			case n < 60:
				key := x.key()
				y, ok := plainMap[key]
				x.deletes(key, x.now, ok && !dead(y, x.now), api.OK)
				delete(plainMap, key)
			case n < 62:
				x.wipe()
				clear(plainMap)
			case n < 66:
				x.again(pages, x.now)
			}
			key := x.key()
			y, ok := plainMap[key]
			if !ok || dead(y, x.now) {
				y, ok = api.Item{}, false
				delete(plainMap, key)
			}
			if got, there, e := x.get(key, x.now); got != y || there != ok || e != api.OK {
				t.Fatalf("T4: %d pages, turn %d: Get(%s): %s, %t, %d, want %s", pages, turn, key, names([]api.Item{got}), there, e, names([]api.Item{y}))
			}
		}
		if x.s.Lost() != 0 || len(x.s.Device()) > 0 {
			t.Errorf("T4: Lost %d, device %s", x.s.Lost(), names(x.s.Device()))
		}
	}
}

// With more keys than memory has room for, and a device that has room for them, all are told too.
func TestTheDeviceKeepsWhatMemoryLetsGo(t *testing.T) {
	g := shape(64, 64, 16, 60)
	x := beginOn(t, device(t, engine.Pages(g)), g, 1)
	r := rand.New(rand.NewSource(5))
	plainMap := map[string]api.Item{}
	for turn := range 20 {
		key := fmt.Sprint("key", turn)
		y := sized(key, []int{60, 110, 300, 1050}[turn%4])
		v, e := x.set(y, 0)
		if e != api.OK {
			t.Fatalf("P16.3: Set(%s): %d", key, e)
		}
		y.Version = v
		plainMap[key] = y
	}
	for turn := range 12 {
		key := fmt.Sprint("key", r.Intn(20))
		if got, ok, e := x.get(key, 0); got != plainMap[key] || !ok || e != api.OK {
			t.Errorf("P16.2: turn %d: Get(%s): %s, %t, %d", turn, key, names([]api.Item{got}), ok, e)
		}
		if turn == 5 {
			x.again(1, 0)
		}
	}
	if x.s.Lost() != 0 {
		t.Errorf("P16.2: Lost: %d", x.s.Lost())
	}
}

// R5: what is told hangs on what was told alone.
func TestSameRunSameAnswers(t *testing.T) {
	run := func() (string, string) {
		x := newRunner(t, device(t, engine.Pages(little())), little(), 11)
		x.run(400)
		return outs(x.s.Memory()), names(x.s.Device())
	}
	m, l := run()
	for range 3 {
		if n, k := run(); n != m || k != l {
			t.Errorf("R5: %q, %q, want %q, %q", n, k, m, l)
		}
	}
}

// What a store tells of a key is one item: memory's, else the device's; what is asked again is told again.
func TestToldAgain(t *testing.T) {
	x := newRunner(t, device(t, engine.Pages(roomy())), roomy(), 7)
	for range 400 {
		x.set(x.item(), 0)
		key := x.key()
		y, ok, e := x.get(key, 0)
		z, again, f := x.get(key, 0)
		if y != z || ok != again || e != f {
			t.Errorf("P16.2: Get(%s) twice: %s, %t, then %s, %t", key, names([]api.Item{y}), ok, names([]api.Item{z}), again)
		}
		inMemory := slices.ContainsFunc(x.s.Memory(), func(o dram.Out) bool { return o.Item == y })
		if ok != inMemory {
			t.Errorf("P16.2: Get(%s): %t, in memory %t", key, ok, inMemory)
		}
	}
}
