package tomb

import (
	"bytes"
	"encoding/binary"
	"fmt"
	"math"
	"math/big"
	"math/rand"
	"slices"
	"testing"

	"cellaret/api"
	"cellaret/flash"
)

const greatest = uint64(math.MaxUint64)

// page lays a page by the chapter's words, up to its end.
func page(gen uint64, l ...Mark) []byte {
	b := make([]byte, api.PageSize)
	b[0], b[1], b[2], b[3] = 84, 79, 77, 66
	binary.LittleEndian.PutUint32(b[4:], uint32(len(l)))
	binary.LittleEndian.PutUint64(b[8:], gen)
	for i, m := range l {
		binary.LittleEndian.PutUint64(b[16+16*i:], m.Key)
		binary.LittleEndian.PutUint64(b[24+16*i:], m.Version)
	}
	return b
}

// told is what a journal holds, by the chapter's words: all marks, and what is left.
type told struct {
	marks []Mark
	room  int
	reads int // the pages that Open reads for it
}

// opened goes over a device's pages by the chapter's words. The device is left as it is.
func opened(d *flash.Dev, first, pages int, gen uint64) told {
	d = d.Copy()
	w := told{room: pages}
	for at := first; at < first+pages; at++ {
		b, e := d.Read(at)
		w.reads++
		if e == api.ETORN {
			w.room--
			continue
		}
		if e != api.OK || string(b[:4]) != "TOMB" || binary.LittleEndian.Uint64(b[8:]) != gen {
			break
		}
		n := binary.LittleEndian.Uint32(b[4:])
		if n > 23 {
			break
		}
		for i := range int(n) {
			w.marks = append(w.marks, Mark{binary.LittleEndian.Uint64(b[16+16*i:]), binary.LittleEndian.Uint64(b[24+16*i:])})
		}
		w.room--
	}
	return w
}

// gone asks all marks one by one.
func (w told) gone(key, version uint64) bool {
	return slices.ContainsFunc(w.marks, func(m Mark) bool { return m.Key == key && m.Version >= version })
}

// list has, of all marks by rising keys and versions, the last of each key.
func (w told) list() []Mark {
	all := slices.Clone(w.marks)
	slices.SortFunc(all, func(a, b Mark) int {
		if a.Key < b.Key || a.Key == b.Key && a.Version < b.Version {
			return -1
		}
		return 1
	})
	var l []Mark
	for i, m := range all {
		if i+1 == len(all) || all[i+1].Key != m.Key {
			l = append(l, m)
		}
	}
	return l
}

// with is what it holds with more marks, on one more page.
func (w told) with(l ...Mark) told {
	return told{marks: append(slices.Clone(w.marks), l...), room: w.room - 1}
}

// holds holds a journal against what it should hold.
func holds(t *testing.T, what string, j *Journal, w told) {
	t.Helper()
	if l := j.Marks(); !slices.Equal(l, w.list()) {
		t.Errorf("%s: Marks: %v, want %v", what, l, w.list())
	}
	if j.Room() != w.room {
		t.Errorf("%s: Room: %d, want %d", what, j.Room(), w.room)
	}
	for _, m := range append(w.list(), Mark{}, Mark{1, 1}, Mark{greatest, greatest}, Mark{12345, 6}) {
		for _, key := range []uint64{m.Key - 1, m.Key, m.Key + 1} {
			for _, version := range []uint64{0, m.Version - 1, m.Version, m.Version + 1, greatest} {
				if got, want := j.Gone(key, version), w.gone(key, version); got != want {
					t.Errorf("%s: Gone(%d, %d): %t, want %t", what, key, version, got, want)
				}
			}
		}
	}
}

func device(t *testing.T, pages int) *flash.Dev {
	t.Helper()
	d, e := flash.New(pages)
	if e != api.OK {
		t.Fatalf("P3.1: New(%d): %d", pages, e)
	}
	return d
}

// open opens a journal, and holds it, and what was read for it, against the chapter's words.
func open(t *testing.T, what string, d *flash.Dev, first, pages int, gen uint64) *Journal {
	t.Helper()
	want := opened(d, first, pages, gen)
	ahead := d.Copy()
	for at := range want.reads {
		ahead.Read(first + at)
	}
	j, e := Open(d, first, pages, gen)
	if e != api.OK || j == nil {
		t.Fatalf("P6.1: %s: Open(%d, %d, %d): %v, %d", what, first, pages, gen, j, e)
	}
	if picture(d) != picture(ahead) {
		t.Errorf("P6.1: %s: Open(%d, %d, %d): Stat %v, want %v, or another change of the device", what, first, pages, gen, d.Stat(), ahead.Stat())
	}
	holds(t, "P6.1: "+what, j, want)
	return j
}

// add adds marks, and holds the answer.
func add(t *testing.T, what string, j *Journal, want api.Errno, l ...Mark) {
	t.Helper()
	if e := j.Add(l...); e != want {
		t.Errorf("%s: Add of %d marks: %d, want %d", what, len(l), e, want)
	}
}

// picture tells all that calls could tell of a device.
func picture(d *flash.Dev) string {
	c := d.Copy()
	var s bytes.Buffer
	fmt.Fprintln(&s, c.Pages(), c.Power(), c.Losses(), c.Waiting(), c.Stat())
	armed := 0
	for a := c.Copy(); a.Power() && armed < 9; armed++ {
		a.Flush()
	}
	fmt.Fprintln(&s, "armed", armed)
	for range 2 {
		for at := range c.Pages() {
			b, e := c.Read(at)
			s.Write(b)
			fmt.Fprintln(&s, at, int(e))
		}
		c.On()
	}
	return s.String()
}

// marks are n of them, no two with one key.
func marks(n int, seed uint64) []Mark {
	var l []Mark
	for i := range uint64(n) {
		l = append(l, Mark{Key: (seed+i)*0x9e3779b97f4a7c15 + 1, Version: seed*100 + i})
	}
	return l
}

func TestExamples(t *testing.T) {
	d := device(t, 3)
	j, e := Open(d, 2, 1, 1)
	f := j.Add(Mark{5, 9})
	if s := fmt.Sprint(int(e), int(f), j.Gone(5, 9), j.Gone(5, 10), j.Room()); s != "0 0 true false 0" {
		t.Errorf("P6.1, P6.2: example: %s", s)
	}
	if e := j.Add(Mark{5, 10}); e != api.EFULL {
		t.Errorf("P6.2: example: Add without room: %d", e)
	}
}

// fits tells whether Open may be, in numbers that never run over.
func fits(n, first, pages int) bool {
	end := new(big.Int).Add(big.NewInt(int64(first)), big.NewInt(int64(pages)))
	return first >= 0 && pages >= 1 && end.Cmp(big.NewInt(int64(n))) <= 0
}

func TestOpenAtTheEdges(t *testing.T) {
	for _, n := range []int{1, 2, 5, api.MaxPages} {
		d := device(t, n)
		d.Write(0, page(1, Mark{3, 4}))
		d.Flush()
		off := d.Copy()
		off.Crash(nil)
		armed := d.Copy()
		armed.Arm(1)
		ahead := []string{picture(d), picture(off), picture(armed)}
		edges := []int{math.MinInt, math.MinInt + 1, -n - 1, -n, -2, -1, 0, 1, 2, 3, n - 2, n - 1, n, n + 1, 2 * n, 1 << 32, 1 << 62, math.MaxInt - n, math.MaxInt - 1, math.MaxInt}
		opens := 0
		for _, first := range edges {
			for _, pages := range edges {
				if fits(n, first, pages) {
					open(t, "a device with one page of marks", d.Copy(), first, pages, 1)
					refused(t, first, pages, off, api.EOFF)
					opens++
					continue
				}
				for _, x := range []*flash.Dev{d, off, armed} {
					refused(t, first, pages, x, api.EARG)
				}
			}
		}
		if opens == 0 || ahead[0] != picture(d) || ahead[1] != picture(off) || ahead[2] != picture(armed) {
			t.Errorf("R3: Open that is refused changes the device of %d pages (%d are not)", n, opens)
		}
	}
}

func refused(t *testing.T, first, pages int, d *flash.Dev, want api.Errno) {
	t.Helper()
	j, e := Open(d, first, pages, 1)
	if e != want {
		t.Errorf("P6.1: Open(%d, %d) of %d pages, power %t: %d, want %d", first, pages, d.Pages(), d.Power(), e, want)
	}
	if j != nil {
		t.Errorf("R2: Open(%d, %d): a journal beside the error %d", first, pages, e)
	}
}

func TestWhereEachByteLies(t *testing.T) {
	want := make([]byte, api.PageSize)
	copy(want, []byte{
		84, 79, 77, 66,
		2, 0, 0, 0,
		0xf1, 0xf2, 0xf3, 0xf4, 0xf5, 0xf6, 0xf7, 0xf8,
		0x11, 0x12, 0x13, 0x14, 0x15, 0x16, 0x17, 0x18,
		0x21, 0x22, 0x23, 0x24, 0x25, 0x26, 0x27, 0x28,
		0xc1, 0xc2, 0xc3, 0xc4, 0xc5, 0xc6, 0xc7, 0xc8,
		1, 2, 3, 4, 5, 6, 7, 8,
	})
	l := []Mark{{0x1817161514131211, 0x2827262524232221}, {0xc8c7c6c5c4c3c2c1, 0x0807060504030201}}
	d := device(t, 3)
	j := open(t, "a new device", d, 1, 2, 0xf8f7f6f5f4f3f2f1)
	add(t, "P6.2", j, api.OK, l...)
	if b, e := d.Read(1); e != api.OK || !bytes.Equal(b, want) {
		t.Errorf("P6.2: the page: %v, %d, want %v", b, e, want)
	}
	d = device(t, 3)
	d.Write(1, want)
	j, _ = Open(d, 1, 2, 0xf8f7f6f5f4f3f2f1)
	holds(t, "P6.1: a page by hand", j, told{marks: l, room: 1})
}

// Each number of marks, on a device where others wait: one page is written, all is flushed.
func TestAddOfEachNumber(t *testing.T) {
	for n := 1; n <= 23; n++ {
		for first := range 3 {
			d := device(t, 5)
			j := open(t, "a new device", d, first, 2, 9)
			d.Write(4, []byte{7})
			want := d.Copy()
			l := marks(n, uint64(n))
			want.Write(first, page(9, l...))
			want.Flush()
			add(t, "P6.2", j, api.OK, l...)
			if picture(d) != picture(want) {
				t.Errorf("P6.2: Add of %d marks at page %d: the device is not as it should be", n, first)
			}
			holds(t, "P6.2: behind Add", j, told{marks: l, room: 1})
			open(t, "behind Add", d, first, 2, 9)
			more := marks(24-n, 1000)
			add(t, "P6.2", j, api.OK, more...)
			want.Write(first+1, page(9, more...))
			want.Flush()
			for at := range 5 {
				a, _ := d.Read(at)
				b, _ := want.Read(at)
				if !bytes.Equal(a, b) {
					t.Errorf("P6.2: Add of %d marks behind %d: page %d: %v, want %v", 24-n, n, at, a, b)
				}
			}
			holds(t, "P6.2: behind two Adds", j, told{marks: append(slices.Clone(l), more...)})
		}
	}
}

// unchanged holds calls of Add that do nothing: neither the device nor the journal is another then.
func unchanged(t *testing.T, what string, d *flash.Dev, j *Journal, w told, want map[int]api.Errno) {
	t.Helper()
	ahead := picture(d)
	for n, e := range want {
		l := marks(n, 500)
		add(t, what, j, e, l...)
		holds(t, "R3: "+what, j, w)
		if picture(d) != ahead {
			t.Errorf("R3: %s: Add of %d marks changes the device", what, n)
		}
	}
}

func TestAddRefused(t *testing.T) {
	for pages := 1; pages <= 3; pages++ {
		d := device(t, pages+1)
		j := open(t, "a new device", d, 1, pages, 4)
		w := told{room: pages}
		tooMany := map[int]api.Errno{0: api.OK, 24: api.EARG, 25: api.EARG, 48: api.EARG, 1000: api.EARG, 65536 + 1: api.EARG}
		for range pages {
			d.Write(0, []byte{1})
			d.Arm(1)
			unchanged(t, "P6.2: too many, or none", d, j, w, tooMany)
			d.Arm(0)
			l := marks(2, uint64(w.room))
			add(t, "P6.2", j, api.OK, l...)
			w = w.with(l...)
		}
		d.Write(0, []byte{2})
		d.Arm(1)
		unchanged(t, "P6.2: without room", d, j, w, map[int]api.Errno{0: api.OK, 1: api.EFULL, 22: api.EFULL, 23: api.EFULL, 24: api.EARG, 1000: api.EARG})
		d.Crash(nil)
		done := map[int]api.Errno{0: api.OK, 1: api.EOFF, 23: api.EOFF, 24: api.EARG, 1000: api.EARG}
		unchanged(t, "R6: without room, and done", d, j, w, done)
		d.On()
		unchanged(t, "R6: without room, done, and the power back", d, j, w, done)
	}
}

// A list of none is none, however it is handed in.
func TestAddOfNone(t *testing.T) {
	d := device(t, 1)
	j := open(t, "a new device", d, 0, 1, 1)
	ahead := picture(d)
	if j.Add() != api.OK || j.Add(nil...) != api.OK || j.Add([]Mark{}...) != api.OK || j.Add(marks(5, 1)[:0]...) != api.OK {
		t.Errorf("P6.2: Add of none")
	}
	if picture(d) != ahead || j.Room() != 1 {
		t.Errorf("P6.2: Add of none does something")
	}
}

// lie is a way in which a page may stand; nil bytes are a blank page.
type lie struct {
	name string
	b    []byte
	torn bool
}

// changed is a page with other bytes from one on.
func changed(b []byte, at int, to ...byte) []byte {
	b = slices.Clone(b)
	copy(b[at:], to)
	return b
}

// lies are pages of every kind for the generation 300; seed lets those of two places differ.
func lies(seed uint64) []lie {
	good := page(300, marks(2, seed)...)
	l := []lie{
		{"blank", nil, false},
		{"torn", nil, true},
		{"noughts", []byte{}, false},
		{"two marks", good, false},
		{"one key for all", page(300, Mark{7, 3 + seed%2}, Mark{7, 2}), false},
		{"no marks", page(300), false},
		{"23 marks", page(300, marks(23, seed)...), false},
		{"23 marks told", changed(good, 4, 23), false},
		{"more behind", changed(good, 48, bytes.Repeat([]byte{9}, api.PageSize-48)...), false},
		{"24 marks told", changed(good, 4, 24), false},
		{"255 marks told", changed(good, 4, 255), false},
		{"258 marks told", changed(good, 5, 1), false},
		{"65538 marks told", changed(good, 6, 1), false},
		{"2^24 + 2 marks told", changed(good, 7, 1), false},
		{"2^31 + 2 marks told", changed(good, 7, 128), false},
		{"2^32 - 1 marks told", changed(good, 4, 255, 255, 255, 255), false},
		{"generation 0", page(0, marks(2, seed)...), false},
		{"generation 299", page(299, marks(2, seed)...), false},
		{"generation 301", page(301, marks(2, seed)...), false},
		{"one byte late", append([]byte{0}, good[:api.PageSize-1]...), false},
	}
	for at := range 4 {
		l = append(l, lie{fmt.Sprintf("another mark at %d", at), changed(good, at, good[at]+1), false})
	}
	for at := 8; at < 16; at++ {
		l = append(l, lie{fmt.Sprintf("another generation at %d", at), changed(good, at, good[at]^128), false})
	}
	return l
}

// stood makes a device of pages as they are given, all flushed.
func stood(t *testing.T, l ...lie) *flash.Dev {
	d := device(t, len(l))
	for at, x := range l {
		if x.torn {
			d.Write(at, page(300, Mark{7, 77}))
		}
	}
	d.Crash(bytes.Repeat([]byte{2}, len(l)))
	d.On()
	for at, x := range l {
		if x.b != nil {
			d.Write(at, x.b)
		}
	}
	d.Flush()
	return d
}

// Each kind of page first, in the middle and last, with good ones and pages outside around it.
func TestPagesOfEveryKind(t *testing.T) {
	out := lie{"outside", page(300, Mark{99, 99}), false}
	for _, a := range lies(1) {
		for _, b := range lies(2) {
			for _, c := range lies(3) {
				d := stood(t, out, a, b, c, out)
				next(t, fmt.Sprintf("%s, %s, %s", a.name, b.name, c.name), d, 1, 3)
			}
		}
	}
}

// next opens a journal of the generation 300 and adds to it: the page at which its reading ended is
// written, and no other.
func next(t *testing.T, what string, d *flash.Dev, first, pages int) {
	t.Helper()
	w := opened(d, first, pages, 300)
	j := open(t, what, d, first, pages, 300)
	want := d.Copy()
	l := []Mark{{8, 1}, {7, 1}}
	if w.room == 0 {
		add(t, "P6.2: "+what, j, api.EFULL, l...)
	} else {
		want.Write(first+pages-w.room, page(300, l...))
		want.Flush()
		add(t, "P6.2: "+what, j, api.OK, l...)
		w = w.with(l...)
	}
	if picture(d) != picture(want) {
		t.Errorf("P6.2: %s: Add: the device is not as it should be", what)
	}
	holds(t, "P6.2: behind Add: "+what, j, w)
}

func TestPagesThatEndTheReading(t *testing.T) {
	good := lie{"good", page(300, Mark{1, 1}), false}
	last := lie{"last", page(300, Mark{2, 2}), false}
	for _, x := range lies(1) {
		goesOn := x.torn || slices.Contains([]string{"two marks", "one key for all", "no marks", "23 marks", "23 marks told", "more behind"}, x.name)
		for at, l := range [][]lie{{x, good, last}, {good, x, last}, {good, last, x}} {
			j, _ := Open(stood(t, l...), 0, 3, 300)
			room, first, second := 3-at, at > 0 || goesOn, at > 1 || goesOn
			if goesOn {
				room = 0
			}
			if j.Room() != room || j.Gone(1, 1) != first || j.Gone(2, 2) != second {
				t.Errorf("P6.1: %s at %d: Room %d, Gone %t, %t, want %d, %t, %t", x.name, at, j.Room(), j.Gone(1, 1), j.Gone(2, 2), room, first, second)
			}
		}
	}
}

// A page of another generation ends the reading for the one, and is read for the other.
func TestGenerations(t *testing.T) {
	for _, gen := range []uint64{0, 1, 255, 256, 1 << 32, 1 << 63, greatest - 1, greatest} {
		d := device(t, 4)
		j := open(t, "a new device", d, 0, 4, gen)
		add(t, "P6.2", j, api.OK, Mark{5, 6})
		for _, other := range []uint64{0, 1, 255, 256, 1 << 32, 1 << 63, greatest - 1, greatest} {
			k := open(t, "one page", d, 0, 4, other)
			if k.Gone(5, 6) != (gen == other) || k.Room() != 4 && gen != other {
				t.Errorf("P6.1: generation %d opened with %d: %v, Room %d", gen, other, k.Marks(), k.Room())
			}
		}
	}
}

// ordered gives every order of a list.
func ordered(l []Mark) [][]Mark {
	if len(l) == 0 {
		return [][]Mark{nil}
	}
	var all [][]Mark
	for i, m := range l {
		rest := slices.Delete(slices.Clone(l), i, i+1)
		for _, o := range ordered(rest) {
			all = append(all, append([]Mark{m}, o...))
		}
	}
	return all
}

// Several marks of one key in any order, on one page and on several, ahead of Open and behind it.
func TestGone(t *testing.T) {
	for _, l := range [][]Mark{
		{{5, 9}},
		{{5, 0}},
		{{0, 0}},
		{{0, greatest}},
		{{greatest, 0}},
		{{greatest, greatest}},
		{{5, 0}, {5, greatest}},
		{{5, 9}, {5, 9}, {5, 8}},
		{{5, 9}, {5, 20}, {5, 4}, {6, 10}},
		{{5, 1 << 63}, {5, 1<<63 - 1}, {4, 1}, {5, 0}},
		{{9, 5}, {5, 9}, {9, 0}, {5, 10}, {1, 1}},
	} {
		for _, o := range ordered(l) {
			d := device(t, 8)
			one := open(t, "a new device", d, 0, 1, 1)
			add(t, "P6.2", one, api.OK, o...)
			holds(t, fmt.Sprintf("P6.1: %v on one page", o), one, told{marks: o})
			open(t, fmt.Sprintf("%v on one page", o), d, 0, 1, 1)
			many := open(t, "a new device", d, 1, 7, 1)
			for i, m := range o {
				add(t, "P6.2", many, api.OK, m)
				holds(t, fmt.Sprintf("P6.1: %v on pages of their own", o[:i+1]), many, told{marks: o[:i+1], room: 6 - i})
			}
			open(t, fmt.Sprintf("%v on pages of their own", o), d, 1, 7, 1)
		}
	}
}

func TestMarks(t *testing.T) {
	d := device(t, 30)
	j := open(t, "a new device", d, 0, 30, 1)
	if l := j.Marks(); len(l) != 0 {
		t.Errorf("P6.1: Marks of a new journal: %v", l)
	}
	w := told{room: 30}
	for i := range 29 {
		l := marks(23, uint64(i*17))
		slices.Reverse(l)
		l[3], l[7] = Mark{0, uint64(i % 5)}, Mark{greatest, greatest - uint64(i%7)}
		add(t, "P6.2", j, api.OK, l...)
		w = w.with(l...)
		holds(t, fmt.Sprintf("P6.1: %d pages", i+1), j, w)
	}
	if l := j.Marks(); !slices.IsSortedFunc(l, func(a, b Mark) int {
		if a.Key < b.Key {
			return -1
		}
		return 1
	}) || l[0] != (Mark{0, 4}) || l[len(l)-1] != (Mark{greatest, greatest}) {
		t.Errorf("P6.1: Marks: %v", l)
	}
	open(t, "29 pages", d, 0, 30, 1)
}

// way is a power that goes and comes; it says what becomes of the one page that waits.
type way struct {
	name  string
	crash func(d *flash.Dev)
	pick  int
}

func ways() []way {
	l := []way{
		{"On", func(d *flash.Dev) { d.On() }, 0},
		{"no picks", func(d *flash.Dev) { d.Crash(nil); d.On() }, 0},
		{"two crashes", func(d *flash.Dev) { d.Crash(nil); d.Crash([]byte{2, 2}); d.On() }, 0},
	}
	for pick := range 256 {
		l = append(l, way{fmt.Sprintf("pick %d", pick), func(d *flash.Dev) { d.Crash([]byte{byte(pick), 1, 2}); d.On() }, pick % 3})
	}
	return l
}

// begun makes a journal of the pages 1 to 6, with n pages of marks.
func begun(t *testing.T, n int) (*flash.Dev, *Journal, told) {
	d := device(t, 8)
	d.Write(0, page(3, Mark{70, 1}))
	d.Write(7, page(3, Mark{71, 1}))
	j := open(t, "a new device", d, 1, 6, 3)
	w := told{room: 6}
	for k := range n {
		l := marks(k+1, uint64(k))
		add(t, "P6.2", j, api.OK, l...)
		w = w.with(l...)
	}
	d.Flush()
	return d, j, w
}

// The power goes at each step of Add: its first is the page, its second the flush.
func TestCutAtEachStep(t *testing.T) {
	for n := range 5 {
		for step := 1; step <= 3; step++ {
			for _, way := range ways() {
				what := fmt.Sprintf("%d pages, cut at step %d, %s", n, step, way.name)
				d, j, w := begun(t, n)
				l := marks(3, 50)
				d.Arm(step)
				cut(t, what, d, j, w, step, l)
				there := d.Losses()
				way.crash(d)
				if d.Losses() == there {
					t.Fatalf("P3.2: %s: no loss", what)
				}
				behind(t, what, d, w, step, way.pick, l)
			}
		}
	}
}

// cut holds an Add whose power goes at a step, and the journal then.
func cut(t *testing.T, what string, d *flash.Dev, j *Journal, w told, step int, l []Mark) {
	t.Helper()
	want := d.Copy()
	if want.Write(7-w.room, page(3, l...)) == api.OK {
		want.Flush()
	}
	switch step {
	case 1:
		add(t, "P6.2: "+what, j, api.EOFF, l...)
		holds(t, "P6.2: nothing is written: "+what, j, w)
	case 2:
		add(t, "P6.2: "+what, j, api.EOFF, l...)
		holds(t, "P6.2: nothing is added, a page is used up: "+what, j, told{marks: w.marks, room: w.room - 1})
	default:
		add(t, "P6.2: "+what, j, api.OK, l...)
		holds(t, "P6.2: "+what, j, w.with(l...))
	}
	if picture(d) != picture(want) {
		t.Errorf("P6.2: %s: the device is not as it should be", what)
	}
}

// behind holds what is opened behind a crash against what the pick left of the page that waited.
func behind(t *testing.T, what string, d *flash.Dev, w told, step, pick int, l []Mark) {
	t.Helper()
	switch {
	case step == 3 || step == 2 && pick == 1:
		w = w.with(l...)
	case step == 2 && pick == 2:
		w.room--
	}
	k := open(t, what, d, 1, 6, 3)
	holds(t, "P6.3: "+what, k, w)
	m := []Mark{{60, 61}, {62, 63}}
	add(t, "P6.2: behind the crash: "+what, k, api.OK, m...)
	holds(t, "P6.2: behind the crash: "+what, k, w.with(m...))
	d.Crash([]byte{2, 2, 2})
	d.On()
	holds(t, "P6.3: behind the next crash: "+what, open(t, what, d, 1, 6, 3), w.with(m...))
}

// Torn pages are used up one by one; what is added behind them is there.
func TestManyTornPages(t *testing.T) {
	d := device(t, 6)
	w := told{room: 6}
	for k := range 5 {
		j := open(t, "torn pages", d, 0, 6, 1)
		holds(t, "P6.1: torn pages", j, w)
		d.Arm(2)
		add(t, "P6.2: cut at the flush", j, api.EOFF, Mark{uint64(k), 1})
		d.Crash([]byte{2})
		d.On()
		w.room--
	}
	j := open(t, "torn pages", d, 0, 6, 1)
	add(t, "P6.2: behind torn pages", j, api.OK, Mark{9, 9})
	holds(t, "P6.3: behind torn pages", open(t, "torn pages", d, 0, 6, 1), told{marks: []Mark{{9, 9}}})
	for at := range 6 {
		if _, e := d.Read(at); (e == api.ETORN) != (at < 5) {
			t.Errorf("P6.2: page %d: %d", at, e)
		}
	}
}

// A journal is done with any loss of its device, however it came, and stays so.
func TestDone(t *testing.T) {
	done := map[int]api.Errno{0: api.OK, 1: api.EOFF, 23: api.EOFF, 24: api.EARG, 1000: api.EARG}
	losses := map[string]func(d *flash.Dev){
		"Crash":                func(d *flash.Dev) { d.Crash(nil) },
		"Crash and On":         func(d *flash.Dev) { d.Crash(nil); d.On() },
		"On":                   func(d *flash.Dev) { d.On() },
		"On, twice":            func(d *flash.Dev) { d.On(); d.On() },
		"Write that is cut":    func(d *flash.Dev) { d.Arm(1); d.Write(0, nil) },
		"Erase that is cut":    func(d *flash.Dev) { d.Arm(1); d.Erase(0) },
		"Flush that is cut":    func(d *flash.Dev) { d.Arm(1); d.Flush() },
		"Flush cut, and On":    func(d *flash.Dev) { d.Arm(1); d.Flush(); d.On() },
		"On, and about to go":  func(d *flash.Dev) { d.On(); d.Arm(1) },
		"On, with pages there": func(d *flash.Dev) { d.On(); d.Write(3, page(3, Mark{80, 1})) },
	}
	for name, loss := range losses {
		for n := range 7 {
			d, j, w := begun(t, n)
			loss(d)
			unchanged(t, "done by "+name, d, j, w, done)
			j.Begin(9)
			unchanged(t, "done by "+name+", and begun", d, j, told{room: 6}, done)
			if !d.Power() {
				d.On()
			}
			unchanged(t, "done by "+name+", begun, and the power on", d, j, told{room: 6}, done)
		}
	}
}

// Losses ahead of Open are not the journal's.
func TestOpenedBehindLosses(t *testing.T) {
	d := device(t, 2)
	for range 3 {
		d.Crash(nil)
		d.On()
	}
	j := open(t, "behind losses", d, 0, 2, 1)
	add(t, "P6.2: behind losses", j, api.OK, Mark{1, 2})
	d.Write(1, []byte{1})
	if d.Arm(1); d.Write(2, nil) != api.EARG {
		t.Fatalf("P3.1: Write past the end")
	}
	d.Arm(0)
	add(t, "P6.2: nothing was lost", j, api.OK, Mark{3, 4})
	holds(t, "P6.2: behind losses", j, told{marks: []Mark{{1, 2}, {3, 4}}})
}

func TestBegin(t *testing.T) {
	for n := range 7 {
		for _, gen := range []uint64{0, 4, greatest} {
			d, j, w := begun(t, n)
			d.Write(0, []byte{5})
			d.Arm(1)
			ahead := picture(d)
			j.Begin(gen)
			if picture(d) != ahead {
				t.Errorf("P6.2: Begin changes the device")
			}
			d.Arm(0)
			holds(t, "P6.2: Begin", j, told{room: 6})
			old := open(t, "the old generation behind Begin", d, 1, 6, 3)
			holds(t, "P6.2: the old generation behind Begin", old, w)
			holds(t, "P6.2: the new one behind Begin", open(t, "Begin", d, 1, 6, gen), told{room: 6})
			add(t, "P6.2: behind Begin", j, api.OK, Mark{1, 2}, Mark{3, 4})
			b, e := d.Read(1)
			if e != api.OK || !bytes.Equal(b, page(gen, Mark{1, 2}, Mark{3, 4})) {
				t.Errorf("P6.2: Add behind Begin: page 1: %v, %d", b, e)
			}
			now := told{marks: []Mark{{1, 2}, {3, 4}}, room: 5}
			holds(t, "P6.2: Add behind Begin", j, now)
			holds(t, "P6.3: the new generation", open(t, "Add behind Begin", d, 1, 6, gen), now)
			holds(t, "P6.2: the old generation", open(t, "Add behind Begin", d, 1, 6, 3), told{room: 6})
			holds(t, "R5: a journal that was opened ahead", old, w)
		}
	}
}

// Begin with the generation that is there already: its pages are written again one by one, and Open
// finds those behind.
func TestBeginAgain(t *testing.T) {
	d, j, _ := begun(t, 3)
	j.Begin(3)
	holds(t, "P6.2: Begin again", j, told{room: 6})
	add(t, "P6.2: Begin again", j, api.OK, Mark{200, 1})
	holds(t, "P6.2: Begin again", j, told{marks: []Mark{{200, 1}}, room: 5})
	w := told{marks: append(append([]Mark{{200, 1}}, marks(2, 1)...), marks(3, 2)...), room: 3}
	holds(t, "P6.1: Begin again", open(t, "Begin again", d, 1, 6, 3), w)
	for k := range 5 {
		add(t, "P6.2: Begin again", j, api.OK, Mark{uint64(300 + k), 1})
	}
	add(t, "P6.2: Begin again", j, api.EFULL, Mark{400, 1})
	j.Begin(4)
	j.Begin(5)
	add(t, "P6.2: Begin twice", j, api.OK, Mark{500, 1})
	holds(t, "P6.2: Begin twice", j, told{marks: []Mark{{500, 1}}, room: 5})
	holds(t, "P6.1: Begin twice", open(t, "Begin twice", d, 1, 6, 5), told{marks: []Mark{{500, 1}}, room: 5})
}

// A cut of the first Add behind Begin leaves the old generation, or the new one, or a torn page.
func TestCutBehindBegin(t *testing.T) {
	for step := 1; step <= 3; step++ {
		for _, way := range ways() {
			d, j, w := begun(t, 2)
			j.Begin(4)
			d.Arm(step)
			e := j.Add(Mark{600, 1})
			if (e == api.OK) != (step == 3) {
				t.Errorf("P6.2: cut at step %d behind Begin: %d", step, e)
			}
			way.crash(d)
			old, now := told{room: 6}, told{room: 6}
			switch {
			case step == 1 || step == 2 && way.pick == 0:
				old = w
			case step == 2 && way.pick == 2:
				old, now.room = told{marks: marks(2, 1), room: 4}, 5
			default:
				now = now.with(Mark{600, 1})
			}
			holds(t, "P6.3: the old generation, "+way.name, open(t, way.name, d, 1, 6, 3), old)
			holds(t, "P6.3: the new generation, "+way.name, open(t, way.name, d, 1, 6, 4), now)
		}
	}
}

func TestMemory(t *testing.T) {
	d := device(t, 3)
	j := open(t, "a new device", d, 0, 3, 1)
	room := append(marks(6, 1), marks(6, 2)...)
	given := slices.Clone(room)
	for _, n := range []int{3, 0} {
		j.Add(room[:n]...)
		if !slices.Equal(room, given) {
			t.Errorf("R4: Add of %d marks changes them, or the room behind", n)
		}
	}
	w := told{marks: slices.Clone(given[:3]), room: 2}
	for i := range room {
		room[i] = Mark{7, greatest}
	}
	holds(t, "R4: a list that is changed behind Add", j, w)
	open(t, "a list that is changed behind Add", d, 0, 3, 1)
	first, second := j.Marks(), j.Marks()
	first = first[:cap(first)]
	for i := range first {
		first[i] = Mark{8, greatest}
	}
	first = append(first[:0], marks(3, 9)...)
	if !slices.Equal(second, w.list()) {
		t.Errorf("R4: an answer of Marks that is changed changes another")
	}
	holds(t, "R4: an answer of Marks that is changed", j, w)
	add(t, "P6.2", j, api.OK, first...)
	if !slices.Equal(second, w.list()) {
		t.Errorf("R4: Add changes an answer of Marks")
	}
	j.Begin(2)
	if !slices.Equal(second, w.list()) {
		t.Errorf("R4: Begin changes an answer of Marks")
	}
	tooMany := append(marks(24, 3), marks(2, 4)...)
	given = slices.Clone(tooMany)
	if j.Add(tooMany[:24]...); !slices.Equal(tooMany, given) {
		t.Errorf("R4: Add that is refused changes what it was given")
	}
}

// Journals beside each other on one device, and on copies of it, are their own.
func TestBesideEachOther(t *testing.T) {
	d := device(t, 4)
	a := open(t, "a new device", d, 0, 2, 1)
	b := open(t, "a new device", d, 2, 2, 1)
	add(t, "P6.2", a, api.OK, Mark{1, 1})
	add(t, "P6.2", b, api.OK, Mark{2, 2})
	add(t, "P6.2", a, api.OK, Mark{3, 3})
	c := d.Copy()
	a.Begin(2)
	c.Crash(nil)
	add(t, "R5", a, api.OK, Mark{4, 4})
	holds(t, "R5", a, told{marks: []Mark{{4, 4}}, room: 1})
	holds(t, "R5", b, told{marks: []Mark{{2, 2}}, room: 1})
	c.On()
	holds(t, "R5", open(t, "a copy", c, 0, 4, 1), told{marks: []Mark{{1, 1}, {3, 3}, {2, 2}}, room: 1})
}

// runner goes on with one journal, and keeps what it should hold by the chapter's words.
type runner struct {
	t      *testing.T
	r      *rand.Rand
	d      *flash.Dev
	j      *Journal
	gen    uint64
	w      told
	losses int
	sure   []Mark // added with OK to this generation
}

const runFirst, runPages = 2, 5

func (x *runner) list() []Mark {
	l := make([]Mark, x.r.Intn(26))
	for i := range l {
		l[i] = Mark{uint64(x.r.Intn(40)), uint64(x.r.Intn(1000))}
	}
	return l
}

func (x *runner) add() {
	l := x.list()
	done, writes := x.d.Losses() != x.losses, x.d.Stat().Writes
	e := x.j.Add(l...)
	wrote := x.d.Stat().Writes > writes
	var want api.Errno
	switch {
	case len(l) == 0:
		want = api.OK
	case len(l) > 23:
		want = api.EARG
	case done:
		want = api.EOFF
	case x.w.room == 0:
		want = api.EFULL
	case !x.d.Power():
		want = api.EOFF
		if wrote {
			x.w.room--
		}
	default:
		x.w = x.w.with(l...)
		x.sure = append(x.sure, l...)
	}
	if e != want {
		x.t.Fatalf("P6.2: Add of %d marks: %d, want %d (done %t, room %d)", len(l), e, want, done, x.w.room)
	}
}

func (x *runner) open() {
	if x.r.Intn(2) == 0 {
		x.d.Flush()
	}
	if !x.d.Power() {
		x.d.On()
	}
	x.w = opened(x.d, runFirst, runPages, x.gen)
	x.j = open(x.t, "a long run", x.d, runFirst, runPages, x.gen)
	x.losses = x.d.Losses()
	for _, m := range x.sure {
		if !x.j.Gone(m.Key, m.Version) {
			x.t.Fatalf("P6.3: %v was added, and is not gone", m)
		}
	}
}

func (x *runner) step() {
	switch x.r.Intn(12) {
	case 0:
		x.d.Arm(x.r.Intn(6))
	case 1:
		picks := make([]byte, x.r.Intn(4))
		x.r.Read(picks)
		x.d.Crash(picks)
	case 2:
		x.d.On()
	case 3, 4:
		x.open()
	case 5:
		if x.w.room < 2 {
			x.gen++
			x.j.Begin(x.gen)
			x.w, x.sure = told{room: runPages}, nil
		}
	case 6:
		x.d.Write(x.r.Intn(2)*7, []byte{1, 2, 3})
	default:
		x.add()
	}
}

func TestALongRun(t *testing.T) {
	for seed := range int64(40) {
		x := &runner{t: t, r: rand.New(rand.NewSource(seed)), d: device(t, 8)}
		x.open()
		for range 600 {
			x.step()
			holds(t, fmt.Sprintf("P6.1: run %d", seed), x.j, x.w)
			if t.Failed() {
				return
			}
		}
	}
}
