package image

import (
	"math"
	"slices"
	"strings"
	"testing"

	"cellaret/api"
	"cellaret/flash"
)

// sized has an item whose record has so many bytes.
func sized(key string, size int, version uint64) api.Item {
	value := make([]byte, size-32-len(key))
	for i := range value {
		value[i] = byte(i*7 + int(version))
	}
	return api.Item{Key: key, Value: string(value), Version: version}
}

// ofSizes has items of these sizes, each with a key and a version of its own.
func ofSizes(sizes ...int) []api.Item {
	var l []api.Item
	for i, size := range sizes {
		l = append(l, sized(string(rune('a'+i%26)), size, uint64(i+1)))
	}
	return l
}

// noGood are items that may not be, each for one reason.
func noGood() []api.Item {
	return []api.Item{
		{},
		{Key: "", Value: "v", Version: 1},
		{Key: strings.Repeat("k", 251), Version: 1},
		{Key: "k", Value: strings.Repeat("v", 1025), Version: 1},
		{Key: "k", Value: "v", Version: 0},
	}
}

// edges are items at the edges of what may be.
func edges() []api.Item {
	return []api.Item{
		{Key: "k", Version: 1},
		{Key: "\x00", Value: "\x00", Version: 1},
		{Key: "\xff\xfe", Value: "é\n\r ", Version: math.MaxUint64, Flags: math.MaxUint32, Exp: math.MinInt64},
		{Key: strings.Repeat("k", 250), Version: 1 << 63, Exp: math.MaxInt64},
		{Key: "k", Value: strings.Repeat("v", 1024), Version: 256, Exp: -1},
		{Key: strings.Repeat("\x00", 250), Value: strings.Repeat("\x00", 1024), Version: 77, Flags: 1 << 31},
		{Key: "IM", Value: "IM\x78\x01\x00\x00\x00\x00", Version: 3},
	}
}

// dumps dumps, and holds the answer against the numbers that are asked.
func dumps(p pair, first, pages int, l []api.Item, n, k int) {
	p.t.Helper()
	if gotN, gotK, e := p.dump(first, pages, l); gotN != n || gotK != k || e != api.OK {
		p.t.Fatalf("P15.1: Dump(%d, %d) of sizes %v: %d, %d, %d, want %d, %d", first, pages, sizes(l), gotN, gotK, e, n, k)
	}
	p.same()
}

// refuses dumps, and holds that it answers the error and nothing beside it.
func refuses(p pair, first, pages int, l []api.Item, want api.Errno) {
	p.t.Helper()
	if n, k, e := p.dump(first, pages, l); n != 0 || k != 0 || e != want {
		p.t.Fatalf("P15.1: Dump(%d, %d) of sizes %v: %d, %d, %d, want %d alone", first, pages, sizes(l), n, k, e, want)
	}
	p.same()
}

// loads loads, and holds the answer against the items that are asked.
func loads(p pair, first, n int, want []api.Item) {
	p.t.Helper()
	if l, e := p.load(first, n); !slices.Equal(l, want) || e != api.OK {
		p.t.Fatalf("P15.1: Load(%d, %d): sizes %v, %d, want %v", first, n, sizes(l), e, sizes(want))
	}
}

// loadsNot loads, and holds that it answers the error and nothing beside it.
func loadsNot(p pair, first, n int, want api.Errno) {
	p.t.Helper()
	if l, e := p.load(first, n); len(l) != 0 || e != want {
		p.t.Fatalf("P15.1: Load(%d, %d): sizes %v, %d, want %d alone", first, n, sizes(l), e, want)
	}
}

func TestExamples(t *testing.T) {
	p := newPair(t, 6)
	l := []api.Item{{Key: "k", Value: "v", Version: 1}, {Key: "l", Value: "w", Version: 2}}
	dumps(p, 2, 3, l, 1, 2)
	loads(p, 2, 1, l)
}

func TestWhereEachByteLies(t *testing.T) {
	p := newPair(t, 4)
	l := ofSizes(400, 50)
	dumps(p, 1, 3, l, 2, 2)
	all := recordsOf(l)
	for place, want := range [][]byte{
		append([]byte{73, 77, 120, 1, 0, 0, 0, 0}, all[:376]...),
		append([]byte{73, 77, 74, 0, 1, 0, 0, 0}, all[376:]...),
	} {
		got, e := p.d.Read(1 + place)
		if e != api.OK || string(got[:len(want)]) != string(want) || strings.Trim(string(got[len(want):]), "\x00") != "" {
			t.Errorf("P15.1: page %d: %v, %d, want %v and noughts", place, got, e, want)
		}
	}
}

func TestNumbers(t *testing.T) {
	x := ofSizes(34)
	for _, all := range []int{1, 6, api.MaxPages} {
		numbers := []int{math.MinInt, math.MinInt + 1, -all, -1, 0, 1, all - 1, all, all + 1, 2 * all, 1 << 32, 1 << 62, 1<<62 + 1, math.MaxInt - all, math.MaxInt - 1, math.MaxInt}
		for _, first := range numbers {
			for _, pages := range numbers {
				p := newPair(t, all)
				p.write(0, nil)
				was := p.d.Stat()
				n, k, e := p.dump(first, pages, nil)
				if n != 0 || k != 0 || (e == api.EARG) != refused(first, pages, all) {
					t.Errorf("P15.1: Dump(%d, %d) on %d pages: %d, %d, %d", first, pages, all, n, k, e)
				}
				if e == api.EARG && (p.d.Stat() != was || len(p.d.Waiting()) != 1) {
					t.Errorf("R3: Dump(%d, %d) on %d pages was refused: %+v, %v", first, pages, all, p.d.Stat(), p.d.Waiting())
				}
				p.dump(first, pages, x)
				was = p.d.Stat()
				if _, e := p.load(first, pages); (e == api.EARG) != refused(first, pages, all) || e == api.EARG && p.d.Stat() != was {
					t.Errorf("P15.1: Load(%d, %d) on %d pages: %d, %+v", first, pages, all, e, p.d.Stat())
				}
			}
		}
	}
}

func TestNumbersByHand(t *testing.T) {
	x := ofSizes(34)
	for _, c := range []struct{ first, pages int }{
		{-1, 1}, {-1, 0}, {-1, 7}, {0, -1}, {1, -1}, {6, -1}, {7, -1}, {0, 7}, {6, 1}, {7, 0}, {1, 6}, {5, 2},
		{math.MaxInt, 1}, {math.MaxInt, math.MaxInt}, {1, math.MaxInt}, {1 << 62, 1 << 62}, {math.MinInt, math.MinInt}, {math.MinInt, math.MaxInt}, {math.MaxInt, math.MinInt},
	} {
		p := newPair(t, 6)
		refuses(p, c.first, c.pages, nil, api.EARG)
		refuses(p, c.first, c.pages, x, api.EARG)
		loadsNot(p, c.first, c.pages, api.EARG)
	}
	for _, c := range []struct{ first, pages, n int }{{0, 6, 1}, {5, 1, 1}, {6, 0, 0}, {0, 0, 0}, {3, 3, 1}} {
		p := newPair(t, 6)
		dumps(p, c.first, c.pages, x, c.n, c.n)
		loads(p, c.first, c.n, x[:c.n])
	}
}

func TestNotGood(t *testing.T) {
	l := ofSizes(100, 300, 200)
	for i, x := range noGood() {
		for at := range 4 {
			for pages := range 4 {
				p := newPair(t, 6)
				p.write(0, []byte{5})
				was := p.d.Stat()
				refuses(p, 2, pages, slices.Insert(slices.Clone(l), at, x), api.EARG)
				if p.d.Stat() != was || len(p.d.Waiting()) != 1 {
					t.Errorf("R3: Dump with number %d at %d was refused: %+v, %v", i, at, p.d.Stat(), p.d.Waiting())
				}
				p.crash()
				refuses(p, 2, pages, slices.Insert(slices.Clone(l), at, x), api.EARG)
			}
		}
	}
	// Behind so many that there is no room for it by far.
	p := newPair(t, 6)
	many := slices.Repeat(ofSizes(300), 1000)
	refuses(p, 0, 6, append(many, api.Item{}), api.EARG)
	dumps(p, 0, 6, many, 6, 7)
}

func TestGoodAtTheEdges(t *testing.T) {
	l := edges()
	p := newPair(t, 16)
	dumps(p, 3, 13, l, 8, len(l))
	loads(p, 3, 8, l)
	for _, x := range l {
		n := (len(record(x)) + 375) / 376
		dumps(p, 0, n, []api.Item{x}, n, 1)
		loads(p, 0, n, []api.Item{x})
		dumps(p, 0, n-1, []api.Item{x}, 0, 0)
	}
}

// TestOneKey holds that an image is no map: what has one key is written as often as it is told.
func TestOneKey(t *testing.T) {
	p := newPair(t, 6)
	l := []api.Item{sized("k", 40, 3), sized("k", 50, 1), sized("k", 40, 3), sized("a", 40, 2)}
	dumps(p, 0, 6, l, 1, 4)
	loads(p, 0, 1, l)
}

func TestNothingIsWritten(t *testing.T) {
	for _, c := range []struct {
		pages int
		l     []api.Item
	}{{0, nil}, {3, nil}, {0, []api.Item{}}, {3, []api.Item{}}, {0, ofSizes(34)}, {0, ofSizes(400, 34)}, {1, ofSizes(377, 34)}, {2, ofSizes(753, 34)}} {
		p := newPair(t, 6)
		p.write(0, []byte{5})
		p.write(3, []byte{6})
		was := p.d.Stat()
		was.Flushes++
		if dumps(p, 2, c.pages, c.l, 0, 0); len(p.d.Waiting()) != 0 {
			t.Errorf("P15.1: Dump(2, %d) of sizes %v: the device is not flushed", c.pages, sizes(c.l))
		}
		loads(p, 2, 0, nil)
		if p.write(0, []byte{7}); p.d.Stat().Flushes != was.Flushes || p.d.Stat().Writes != was.Writes+1 {
			t.Errorf("P15.1: Dump(2, %d) of sizes %v: %+v", c.pages, sizes(c.l), p.d.Stat())
		}
		p.arm(1)
		refuses(p, 2, c.pages, c.l, api.EOFF)
		refuses(p, 2, c.pages, c.l, api.EOFF)
	}
}

func TestRoom(t *testing.T) {
	for pages := 1; pages <= 6; pages++ {
		for _, lead := range [][]int{nil, {34}, {100, 33, 150}, {300}} {
			rest := 376 * pages
			for _, n := range lead {
				rest -= n
			}
			for rest > 1000 {
				lead = append(slices.Clone(lead), 500)
				rest -= 500
			}
			for _, more := range []int{-1, 0, 1} {
				l := ofSizes(append(slices.Clone(lead), rest+more)...)
				p := newPair(t, 8)
				k := len(l)
				if more > 0 {
					k--
				}
				dumps(p, 1, pages, l, len(parts(recordsOf(l[:k]))), k)
				loads(p, 1, len(parts(recordsOf(l[:k]))), l[:k])
				// A page more, and there is room for all, and for what follows.
				l = append(l, sized("z", 34, 99))
				dumps(p, 1, pages+1, l, pages+1, len(l))
				loads(p, 1, pages+1, l)
			}
		}
	}
}

func TestRoomByHand(t *testing.T) {
	for _, c := range []struct {
		sizes       []int
		pages, n, k int
	}{
		{[]int{376}, 1, 1, 1}, {[]int{375}, 1, 1, 1}, {[]int{377}, 1, 0, 0}, {[]int{377}, 2, 2, 1},
		{[]int{188, 188}, 1, 1, 2}, {[]int{188, 187}, 1, 1, 2}, {[]int{188, 189}, 1, 1, 1}, {[]int{188, 189}, 2, 2, 2},
		{[]int{376, 376}, 2, 2, 2}, {[]int{376, 377}, 2, 1, 1}, {[]int{376, 375}, 2, 2, 2}, {[]int{376, 34}, 1, 1, 1},
		{[]int{34, 1000, 34}, 2, 1, 1}, {[]int{34, 1000, 34}, 3, 3, 3}, {[]int{1000, 34}, 2, 0, 0},
		{[]int{300, 500, 40, 40, 40}, 2, 1, 1}, {[]int{300, 452, 40}, 2, 2, 2}, {[]int{300, 453, 40}, 2, 1, 1},
		{[]int{300, 451, 34, 34}, 2, 2, 2},
	} {
		p := newPair(t, 6)
		l := ofSizes(c.sizes...)
		dumps(p, 2, c.pages, l, c.n, c.k)
		loads(p, 2, c.n, l[:c.k])
	}
}

// TestEachSize holds all sizes of an item, with just the pages that it needs, and one fewer.
func TestEachSize(t *testing.T) {
	p := newPair(t, 5)
	for size := 33; size <= 1057; size++ {
		l := ofSizes(size)
		n := (size + 375) / 376
		dumps(p, 0, n, l, n, 1)
		loads(p, 0, n, l)
		dumps(p, 0, n-1, l, 0, 0)
	}
}

// TestEachCut lets a page end at each place of a record: within its head, its key and its value, and
// just at its ends.
func TestEachCut(t *testing.T) {
	long := api.Item{Key: strings.Repeat("k", 100), Value: strings.Repeat("v", 100), Version: 9, Flags: 7, Exp: 5}
	p := newPair(t, 6)
	for lead := 33; lead <= 2*376+1; lead++ {
		l := append(ofSizes(lead), long, sized("z", 40, 3))
		n := (lead + 232 + 40 + 375) / 376
		dumps(p, 1, 5, l, n, 3)
		loads(p, 1, n, l)
	}
}

func TestThePagesBeside(t *testing.T) {
	p := newPair(t, 12)
	for page := range 12 {
		p.write(page, []byte{byte(page), 9})
	}
	dumps(p, 2, 8, ofSizes(376, 376, 376, 376, 376, 376, 376), 7, 7)
	p.tear(1)
	p.tear(8)
	p.erase(10)
	p.flush()
	p.write(0, []byte{77})
	dumps(p, 4, 4, ofSizes(300, 300), 2, 2)
	for page, kind := range map[int]string{0: "whole", 1: "torn", 8: "torn", 9: "whole", 10: "blank"} {
		if got := sheetOf(p.d, page).kind; got != kind {
			t.Errorf("P15.1: page %d beside: %s, want %s", page, got, kind)
		}
	}
	loads(p, 4, 2, ofSizes(300, 300))
	// The pages of the elder image that were not written anew are as they were.
	loadsNot(p, 2, 7, api.EFORM)
	loads(p, 2, 2, ofSizes(376, 376))
}

// TestFlushed holds that what Dump wrote is there behind a crash, whatever is picked, and so is what
// waited ahead of it.
func TestFlushed(t *testing.T) {
	for pick := range byte(3) {
		p := newPair(t, 8)
		l := ofSizes(500, 500)
		p.write(0, []byte{5})
		dumps(p, 1, 6, l, 3, 2)
		if w := p.d.Waiting(); len(w) != 0 {
			t.Errorf("P15.1: behind Dump there wait %v", w)
		}
		p.crash(slices.Repeat([]byte{pick}, 8)...)
		p.on()
		p.same()
		loads(p, 1, 3, l)
		if b, e := p.d.Read(0); e != api.OK || b[0] != 5 {
			t.Errorf("P15.1: what waited ahead of Dump: %v, %d", b, e)
		}
		// What Dump writes over waits itself.
		p.write(2, []byte{5})
		dumps(p, 1, 6, ofSizes(600, 400), 3, 2)
		p.crash(slices.Repeat([]byte{pick}, 8)...)
		p.on()
		loads(p, 1, 3, ofSizes(600, 400))
	}
}

func TestHowOftenTheDeviceIsAsked(t *testing.T) {
	for n := range 5 {
		p := newPair(t, 6)
		l := slices.Repeat(ofSizes(376), n)
		was := p.d.Stat()
		if Dump(p.d, 0, 6, l); p.d.Stat() != (flash.Stat{Writes: was.Writes + n, Flushes: was.Flushes + 1, Reads: was.Reads}) {
			t.Errorf("P15.1: Dump of %d pages: %+v, then %+v", n, was, p.d.Stat())
		}
		was = p.d.Stat()
		if Load(p.d, 0, n); p.d.Stat() != (flash.Stat{Writes: was.Writes, Flushes: was.Flushes, Reads: was.Reads + n}) {
			t.Errorf("P15.1: Load of %d pages: %+v, then %+v", n, was, p.d.Stat())
		}
	}
}

func TestPowerIsOff(t *testing.T) {
	for name, off := range map[string]func(pair){"Crash": func(p pair) { p.crash() }, "Arm": func(p pair) { p.arm(1); p.flush() }} {
		p := newPair(t, 6)
		dumps(p, 1, 3, ofSizes(500), 2, 1)
		off(p)
		refuses(p, 1, 3, ofSizes(500), api.EOFF)
		refuses(p, 1, 3, nil, api.EOFF)
		refuses(p, 6, 0, nil, api.EOFF)
		for n := range 5 {
			loadsNot(p, 1, n, api.EOFF)
		}
		loadsNot(p, 6, 0, api.EOFF)
		// EARG is named first.
		refuses(p, 1, 6, nil, api.EARG)
		refuses(p, -1, 6, nil, api.EARG)
		refuses(p, 1, 3, []api.Item{{}}, api.EARG)
		loadsNot(p, 1, 6, api.EARG)
		loadsNot(p, 1, -1, api.EARG)
		p.on()
		if loads(p, 1, 2, ofSizes(500)); p.d.Losses() != 2 {
			t.Errorf("P15.1: off by %s: %d losses", name, p.d.Losses())
		}
	}
}

// TestEachCutOff lets the power go at each write and at the flush, with all picks of what waits then.
func TestEachCutOff(t *testing.T) {
	elder := ofSizes(376, 376, 376, 376, 376)
	for n := range 5 {
		l := slices.Repeat([]api.Item{sized("n", 376, 50)}, n)
		for cut := 1; cut <= n+1; cut++ {
			p := newPair(t, 7)
			dumps(p, 1, 6, elder, 5, 5)
			p.arm(cut)
			refuses(p, 1, 6, l, api.EOFF)
			var want []int
			for page := 1; page < cut; page++ {
				want = append(want, page)
			}
			if got := p.d.Waiting(); !slices.Equal(got, want) || p.d.Power() {
				t.Errorf("P15.1: Dump of %d pages, cut at %d: there wait %v, want %v", n, cut, got, want)
			}
			allPicks(len(want), func(picks []byte) {
				c := p.copied()
				c.crash(picks...)
				c.on()
				c.same()
				for pages := range 6 {
					c.load(1, pages)
				}
			})
			p.on()
			loads(p, 1, 5, elder)
		}
		p := newPair(t, 7)
		p.arm(n + 2)
		dumps(p, 1, 6, l, n, n)
		loads(p, 1, n, l)
		if p.d.Flush() != api.EOFF {
			t.Errorf("P15.1: Dump of %d pages does more than write and flush them", n)
		}
	}
}

// allPicks goes over all picks of so many pages.
func allPicks(n int, each func(picks []byte)) {
	picks := make([]byte, n)
	for {
		each(picks)
		at := 0
		for at < n && picks[at] == 2 {
			picks[at] = 0
			at++
		}
		if at == n {
			return
		}
		picks[at]++
	}
}

// TestTheGreatestDevice has places of which two bytes are needed.
func TestTheGreatestDevice(t *testing.T) {
	l := slices.Repeat(ofSizes(1000, 540), 1100)
	p := newPair(t, api.MaxPages)
	dumps(p, 0, api.MaxPages, l, api.MaxPages, 2000)
	loads(p, 0, api.MaxPages, l[:2000])
	if b, e := p.d.Read(4095); e != api.OK || b[4] != 255 || b[5] != 15 || b[6] != 0 || b[7] != 0 {
		t.Errorf("P15.1: the place of the last page: %v, %d", b[:8], e)
	}
	dumps(p, 4000, 96, slices.Repeat(ofSizes(376), 200), 96, 96)
	loads(p, 4000, 96, slices.Repeat(ofSizes(376), 96))
	loadsNot(p, 0, api.MaxPages, api.EFORM)
}

func TestListsAreNotKept(t *testing.T) {
	p := newPair(t, 6)
	room := ofSizes(40, 50, 60, 70)
	was := slices.Clone(room)
	dumps(p, 1, 3, room[:2], 1, 2)
	if !slices.Equal(room, was) {
		t.Errorf("R4: Dump changed the spare room of what it was handed")
	}
	for i := range room {
		room[i] = api.Item{}
	}
	p.same()
	a, _ := Load(p.d, 1, 1)
	b, _ := Load(p.d, 1, 1)
	for i := range a[:cap(a)] {
		a[:cap(a)][i] = api.Item{Key: "x"}
	}
	if !slices.Equal(b, was[:2]) {
		t.Errorf("R4: two answers of Load share memory: %v", b)
	}
	p.same()
	loads(p, 1, 1, was[:2])
	dumps(p, 1, 3, ofSizes(99), 1, 1)
	if !slices.Equal(b, was[:2]) {
		t.Errorf("R4: an answer of Load, behind a Dump: %v", b)
	}
}
