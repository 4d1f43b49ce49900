package image

import (
	"slices"
	"testing"

	"cellaret/api"
)

// written has a device whose pages from first on are these; nil: it is never written.
func written(t *testing.T, all, first int, pages ...[]byte) pair {
	t.Helper()
	p := newPair(t, all)
	for i, b := range pages {
		if b != nil {
			p.write(first+i, b)
		}
	}
	return p
}

func TestLoadNothing(t *testing.T) {
	p := newPair(t, 3)
	for first := range 4 {
		loads(p, first, 0, nil)
	}
	for first := range 3 {
		loadsNot(p, first, 1, api.EFORM)
	}
	for page := range 3 {
		p.tear(page)
	}
	loads(p, 1, 0, nil)
	loadsNot(p, 0, 3, api.EFORM)
}

// TestLoadWaits holds that Load asks for no flush: what waits reads as it was written.
func TestLoadWaits(t *testing.T) {
	l := ofSizes(500)
	all := recordsOf(l)
	p := written(t, 4, 1, pageOf(0, all[:376]), pageOf(1, all[376:]))
	loads(p, 1, 2, l)
	if w := p.d.Waiting(); len(w) != 2 {
		t.Errorf("P15.1: behind Load there wait %v", w)
	}
	p.crash()
	p.on()
	loadsNot(p, 1, 2, api.EFORM)
}

func TestPagesThatDoNotRead(t *testing.T) {
	l := ofSizes(376, 376, 376, 100)
	for at := range 4 {
		for _, spoil := range []func(pair, int){pair.erase, pair.tear} {
			p := newPair(t, 6)
			dumps(p, 1, 4, l, 4, 4)
			spoil(p, 1+at)
			for n := range 5 {
				if n > at {
					loadsNot(p, 1, n, api.EFORM)
				} else {
					loads(p, 1, n, l[:n])
				}
			}
			p.same()
		}
		pages := [][]byte{pageOf(0, record(l[0])), pageOf(1, record(l[1])), pageOf(2, record(l[2])), pageOf(3, record(l[3]))}
		pages[at] = nil
		loadsNot(written(t, 6, 1, pages...), 1, 4, api.EFORM)
	}
}

// TestEachByteOfTheHead lets each byte ahead of a page's records be each other one.
func TestEachByteOfTheHead(t *testing.T) {
	l := ofSizes(376, 376, 256)
	for place, x := range l {
		for at := range 8 {
			for b := range 256 {
				page := pageOf(uint32(place), record(x))
				if page[at] == byte(b) {
					continue
				}
				page[at] = byte(b)
				p := newPair(t, 4)
				p.dump(1, 3, l)
				p.write(1+place, page)
				if at == 3 && b == 0 && place < 2 || at == 2 && place == 2 {
					// Fewer bytes than stand there, or noughts behind them: no page that is full, or no records.
					loadsNot(p, 1, 3, api.EFORM)
				}
				if at < 2 || at > 3 {
					loadsNot(p, 1, 3, api.EFORM)
				}
				p.load(1, 3)
			}
		}
	}
}

func TestNumbersOfBytes(t *testing.T) {
	// All records that the numbers could ask for are there: so nothing but the number refuses them.
	x := record(sized("a", 376, 1))
	for n := range 1 << 16 {
		page := pageOf(0, x)
		page[2], page[3] = byte(n), byte(n>>8)
		p := written(t, 1, 0, page)
		switch {
		case n == 376:
			loads(p, 0, 1, ofSizes(376))
		case n == 0:
			loads(p, 0, 1, nil)
		default:
			loadsNot(p, 0, 1, api.EFORM)
		}
	}
}

func TestPlaces(t *testing.T) {
	l := ofSizes(376, 376, 376)
	for _, c := range []struct {
		places [3]uint32
		ok     bool
	}{
		{[3]uint32{0, 1, 2}, true}, {[3]uint32{1, 2, 3}, false}, {[3]uint32{0, 0, 0}, false}, {[3]uint32{0, 2, 1}, false},
		{[3]uint32{2, 1, 0}, false}, {[3]uint32{0, 1, 3}, false}, {[3]uint32{0, 1, 1}, false},
		{[3]uint32{1 << 8, 1, 2}, false}, {[3]uint32{1 << 16, 1, 2}, false}, {[3]uint32{1 << 24, 1, 2}, false}, {[3]uint32{1 << 31, 1, 2}, false},
		{[3]uint32{0, 1<<8 + 1, 2}, false}, {[3]uint32{0, 1, 1<<16 + 2}, false}, {[3]uint32{0, 1, 1<<24 + 2}, false}, {[3]uint32{0, 1 << 24, 2}, false},
		{[3]uint32{1<<32 - 1, 0, 1}, false}, {[3]uint32{3, 4, 5}, false},
	} {
		// From page 3 on: so a place that is the device's own page is another one.
		p := written(t, 6, 3, pageOf(c.places[0], record(l[0])), pageOf(c.places[1], record(l[1])), pageOf(c.places[2], record(l[2])))
		if c.ok {
			loads(p, 3, 3, l)
		} else {
			loadsNot(p, 3, 3, api.EFORM)
		}
	}
}

func TestFewerBytesAheadOfTheLast(t *testing.T) {
	full, short := record(sized("a", 376, 1)), record(sized("b", 100, 2))
	for _, c := range []struct {
		pages [][]byte
		want  []api.Item
		ok    bool
	}{
		{[][]byte{full, short}, []api.Item{sized("a", 376, 1), sized("b", 100, 2)}, true},
		{[][]byte{short, full}, nil, false},
		{[][]byte{short, short}, nil, false},
		{[][]byte{full, short, full}, nil, false},
		{[][]byte{{}, full}, nil, false},
		{[][]byte{{}, {}}, nil, false},
		{[][]byte{full, {}, full}, nil, false},
		{[][]byte{full, {}}, []api.Item{sized("a", 376, 1)}, true},
		{[][]byte{{}}, nil, true},
		{[][]byte{full, full, {}}, []api.Item{sized("a", 376, 1), sized("a", 376, 1)}, true},
		{[][]byte{full[:375], append(slices.Clone(full[375:]), short...)}, nil, false},
		{[][]byte{record(sized("a", 375, 1)), short}, nil, false},
	} {
		p := newPair(t, 4)
		for place, b := range c.pages {
			p.write(1+place, pageOf(uint32(place), b))
		}
		if c.ok {
			loads(p, 1, len(c.pages), c.want)
		} else {
			loadsNot(p, 1, len(c.pages), api.EFORM)
		}
	}
}

// TestRecordsThatEnd cuts records at each byte: it is whole records alone that are told.
func TestRecordsThatEnd(t *testing.T) {
	l := ofSizes(300, 34, 200, 33, 400)
	all := recordsOf(l)
	ends := map[int]int{0: 0, 300: 1, 334: 2, 534: 3, 567: 4, 967: 5}
	for end := range len(all) + 1 {
		p := newPair(t, 4)
		n := 0
		for place, b := range parts(all[:end]) {
			p.write(1+place, pageOf(uint32(place), b))
			n++
		}
		if k, whole := ends[end]; whole {
			loads(p, 1, n, l[:k])
		} else {
			loadsNot(p, 1, n, api.EFORM)
		}
	}
}

// TestNoughtsAreNoEnd holds that a byte 0 behind the records, which is an end to rec's List, is none here.
func TestNoughtsAreNoEnd(t *testing.T) {
	one := record(sized("a", 100, 1))
	for n := range 276 {
		b := append(slices.Clone(one), make([]byte, n)...)
		if p := written(t, 1, 0, pageOf(0, b)); n == 0 {
			loads(p, 0, 1, ofSizes(100))
		} else {
			loadsNot(p, 0, 1, api.EFORM)
		}
	}
	for n := 1; n <= 376; n++ {
		loadsNot(written(t, 1, 0, pageOf(0, make([]byte, n))), 0, 1, api.EFORM)
	}
	b := slices.Concat(one, []byte{0}, record(sized("b", 100, 2)))
	loadsNot(written(t, 1, 0, pageOf(0, b)), 0, 1, api.EFORM)
}

// TestEachByteSpoilt spoils each byte that Dump wrote, in some ways, and each nought behind them.
func TestEachByteSpoilt(t *testing.T) {
	l := ofSizes(300, 34, 300, 50)
	p := newPair(t, 3)
	dumps(p, 1, 2, l, 2, 4)
	for page := 1; page <= 2; page++ {
		was, _ := p.d.Read(page)
		for at := range was {
			for _, by := range []byte{1, 2, 16, 128, 255} {
				b := slices.Clone(was)
				b[at] ^= by
				p.write(page, b)
				if page == 2 && at >= 8+684-376 {
					loads(p, 1, 2, l)
				} else {
					loadsNot(p, 1, 2, api.EFORM)
				}
			}
		}
		p.write(page, was)
	}
	loads(p, 1, 2, l)
}

func TestRecordsThatMayNotBe(t *testing.T) {
	for _, x := range noGood() {
		p := newPair(t, 5)
		n := 0
		for place, b := range parts(slices.Concat(record(sized("a", 50, 1)), record(x))) {
			p.write(place, pageOf(uint32(place), b))
			n++
		}
		loadsNot(p, 0, n, api.EFORM)
	}
}

func TestFewerAndMorePages(t *testing.T) {
	p := newPair(t, 8)
	even := ofSizes(376, 376, 200)
	dumps(p, 2, 5, even, 3, 3)
	for n := range 4 {
		loads(p, 2, n, even[:n])
	}
	for n := 4; n <= 6; n++ {
		loadsNot(p, 2, n, api.EFORM)
	}
	loadsNot(p, 2, 7, api.EARG)
	for _, first := range []int{0, 1, 3, 4, 5} {
		loadsNot(p, first, 1, api.EFORM)
		loadsNot(p, first, 3, api.EFORM)
	}
	dumps(p, 2, 5, ofSizes(300, 300, 300), 3, 3)
	loads(p, 2, 0, nil)
	loadsNot(p, 2, 1, api.EFORM)
	loadsNot(p, 2, 2, api.EFORM)
	loads(p, 2, 3, ofSizes(300, 300, 300))
	loadsNot(p, 2, 4, api.EFORM)
	full := ofSizes(500, 628)
	dumps(p, 2, 5, full, 3, 2)
	loads(p, 2, 3, full)
	loadsNot(p, 2, 4, api.EFORM)
}

// TestAnElderImageBehind holds that pages tell nothing of which Dump wrote them: how many they are is
// for the one who loads them to know.
func TestAnElderImageBehind(t *testing.T) {
	p := newPair(t, 6)
	elder := ofSizes(376, 376, 100)
	newer := sized("n", 376, 50)
	dumps(p, 1, 5, elder, 3, 3)
	dumps(p, 1, 5, []api.Item{newer}, 1, 1)
	loads(p, 1, 1, []api.Item{newer})
	loads(p, 1, 2, []api.Item{newer, elder[1]})
	loads(p, 1, 3, []api.Item{newer, elder[1], elder[2]})
	dumps(p, 1, 5, ofSizes(300), 1, 1)
	loads(p, 1, 1, ofSizes(300))
	loadsNot(p, 1, 2, api.EFORM)
}
