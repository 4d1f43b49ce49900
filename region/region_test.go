package region

import (
	"bytes"
	"encoding/binary"
	"fmt"
	"hash/crc32"
	"maps"
	"math"
	"math/big"
	"math/rand"
	"slices"
	"strings"
	"testing"

	"cellaret/api"
	"cellaret/flash"
)

// records lays items by chapter 4's words.
func records(l ...api.Item) []byte {
	var b []byte
	table := crc32.MakeTable(crc32.Castagnoli)
	for _, x := range l {
		h := []byte{byte(len(x.Key)), byte(len(x.Value)), byte(len(x.Value) >> 8), 82}
		h = binary.LittleEndian.AppendUint32(h, x.Flags)
		h = binary.LittleEndian.AppendUint64(h, uint64(x.Exp))
		h = binary.LittleEndian.AppendUint64(h, x.Version)
		h = binary.LittleEndian.AppendUint32(h, crc32.Checksum(h, table))
		h = binary.LittleEndian.AppendUint32(h, crc32.Checksum([]byte(x.Key+x.Value), table))
		b = append(append(append(b, h...), x.Key...), x.Value...)
	}
	return b
}

// listed reads records by chapter 4's words.
func listed(b []byte) ([]api.Item, bool) {
	var l []api.Item
	for len(b) > 0 && b[0] != 0 {
		if len(b) < 32 {
			return nil, false
		}
		k, v := int(b[0]), int(binary.LittleEndian.Uint16(b[1:]))
		if k > 250 || v > 1024 || len(b) < 32+k+v {
			return nil, false
		}
		x := api.Item{
			Key:     string(b[32 : 32+k]),
			Value:   string(b[32+k : 32+k+v]),
			Flags:   binary.LittleEndian.Uint32(b[4:]),
			Exp:     int64(binary.LittleEndian.Uint64(b[8:])),
			Version: binary.LittleEndian.Uint64(b[16:]),
		}
		if x.Version == 0 || !bytes.Equal(records(x), b[:32+k+v]) {
			return nil, false
		}
		l, b = append(l, x), b[32+k+v:]
	}
	return l, true
}

// sheet is a region's page by the chapter's words.
func sheet(place byte, n uint64, b []byte) []byte {
	p := []byte{82, 71, place, 0}
	p = binary.LittleEndian.AppendUint32(p, uint32(len(b)))
	p = binary.LittleEndian.AppendUint64(p, n)
	return append(p, b...)
}

// sheets are a region's four pages.
func sheets(n uint64, content []byte) [4][]byte {
	var l [4][]byte
	for k := range l {
		l[k] = sheet(byte(k), n, content[min(368*k, len(content)):min(368*k+368, len(content))])
	}
	return l
}

// cell is a page as it stands: blank, whole (with all its bytes) or torn.
type cell struct{ kind, text string }

func wholeCell(b []byte) cell {
	return cell{"whole", string(b) + strings.Repeat("\x00", api.PageSize-len(b))}
}

// cells reads pages of a device.
func cells(d *flash.Dev, first, n int) []cell {
	c := d.Copy()
	var l []cell
	for at := range n {
		b, e := c.Read(first + at)
		switch e {
		case api.OK:
			l = append(l, wholeCell(b))
		case api.ETORN:
			l = append(l, cell{kind: "torn"})
		default:
			l = append(l, cell{kind: "blank"})
		}
	}
	return l
}

// thing is an item with a name of its own: so that two items that are the same are two things.
type thing struct {
	id int
	x  api.Item
}

// shelf is a region that counts; with the number 0 there is none.
type shelf struct {
	number uint64
	things []thing
}

// plain is a log by the chapter's words, on plain lists.
type plain struct {
	shelves []shelf // place by place
	number  uint64
	open    []thing
	has     map[string]int // by key: which thing
	ids     int
}

func (p *plain) named(l ...api.Item) []thing {
	var out []thing
	for _, x := range l {
		p.ids++
		out = append(out, thing{p.ids, x})
	}
	return out
}

// seen makes a log of pages, as if it were opened on them.
func seen(l []cell) *plain {
	p := &plain{shelves: make([]shelf, len(l)/4), has: map[string]int{}}
	for at := range p.shelves {
		p.shelves[at] = p.see(l[4*at : 4*at+4])
	}
	for _, s := range p.rising() {
		for _, y := range s.things {
			p.has[y.x.Key] = y.id
		}
	}
	return p
}

// see reads one region's pages: its number is told, whether it counts or not.
func (p *plain) see(l []cell) shelf {
	var numbers []uint64
	var content []byte
	places := true
	for k, c := range l {
		if c.kind != "whole" || c.text[:2] != "\x52\x47" || c.text[3] != 0 {
			continue
		}
		size := binary.LittleEndian.Uint32([]byte(c.text[4:8]))
		if size > 368 {
			continue
		}
		places = places && int(c.text[2]) == k
		numbers = append(numbers, binary.LittleEndian.Uint64([]byte(c.text[8:16])))
		content = append(content, c.text[16:16+size]...)
	}
	if len(numbers) == 0 {
		return shelf{}
	}
	p.number = max(p.number, slices.Max(numbers))
	items, ok := listed(content)
	if len(numbers) < 4 || slices.Min(numbers) != slices.Max(numbers) || numbers[0] == 0 || !places || !ok {
		return shelf{}
	}
	return shelf{numbers[0], p.named(items...)}
}

func none(regions int) *plain { return seen(make([]cell, 4*regions)) }

// rising are the regions that count, by rising numbers; of one number, by their places.
func (p *plain) rising() []shelf {
	l := slices.DeleteFunc(slices.Clone(p.shelves), func(s shelf) bool { return s.number == 0 })
	slices.SortStableFunc(l, func(a, b shelf) int {
		if a.number < b.number {
			return -1
		}
		return int(min(a.number-b.number, 1))
	})
	return l
}

// held are those of things that their keys have.
func (p *plain) held(l []thing) []api.Item {
	var out []api.Item
	for _, y := range l {
		if p.has[y.x.Key] == y.id {
			out = append(out, y.x)
		}
	}
	return out
}

func (p *plain) items() []api.Item {
	var all []api.Item
	for _, s := range p.rising() {
		all = append(all, p.held(s.things)...)
	}
	return append(all, p.held(p.open)...)
}

func (p *plain) get(key string) (api.Item, api.Errno) {
	for _, x := range p.items() {
		if x.Key == key {
			return x, api.OK
		}
	}
	return api.Item{}, api.ENONE
}

func (p *plain) drop(key string) { delete(p.has, key) }

func itemsOf(l []thing) []api.Item {
	var out []api.Item
	for _, y := range l {
		out = append(out, y.x)
	}
	return out
}

// medium is what a region is written to.
type medium interface {
	Write(page int, b []byte) api.Errno
	Flush() api.Errno
}

// next is the place that the next Seal writes to.
func (p *plain) next() int { return int((p.number + 1) % uint64(len(p.shelves))) }

func (p *plain) seal(m medium, first int, done bool) ([]api.Item, api.Errno) {
	switch {
	case len(p.open) == 0:
		return nil, api.OK
	case done:
		return nil, api.EOFF
	case p.number == math.MaxUint64:
		return nil, api.EWORN
	}
	n, place := p.number+1, p.next()
	lost := p.held(p.shelves[place].things)
	for _, x := range lost {
		p.drop(x.Key)
	}
	p.shelves[place] = shelf{}
	for k, b := range sheets(n, records(itemsOf(p.open)...)) {
		if e := m.Write(first+4*place+k, b); e != api.OK {
			return lost, e
		}
	}
	if e := m.Flush(); e != api.OK {
		return lost, e
	}
	p.number, p.shelves[place], p.open = n, shelf{n, p.open}, nil
	return lost, api.OK
}

func (p *plain) put(m medium, first int, done bool, x api.Item) ([]api.Item, api.Errno) {
	size := 32 + len(x.Key) + len(x.Value)
	if len(x.Key) < 1 || len(x.Key) > 250 || len(x.Value) > 1024 || x.Version == 0 || size > 1472 {
		return nil, api.EARG
	}
	var lost []api.Item
	if len(records(itemsOf(p.open)...))+size > 1472 {
		var e api.Errno
		if lost, e = p.seal(m, first, done); e != api.OK {
			return lost, e
		}
	}
	p.open = append(p.open, p.named(x)...)
	p.has[x.Key] = p.ids
	return lost, api.OK
}

func device(t *testing.T, pages int) *flash.Dev {
	t.Helper()
	d, e := flash.New(pages)
	if e != api.OK {
		t.Fatalf("P3.1: New(%d): %d", pages, e)
	}
	return d
}

// picture tells all that calls could tell of a device.
func picture(d *flash.Dev) string {
	c := d.Copy()
	var s bytes.Buffer
	fmt.Fprintln(&s, c.Pages(), c.Power(), c.Losses(), c.Waiting(), c.Stat())
	armed := 0
	for a := c.Copy(); a.Power() && armed < 9; armed++ {
		a.Flush()
	}
	fmt.Fprintln(&s, "armed", armed)
	for range 2 {
		for at := range c.Pages() {
			b, e := c.Read(at)
			s.Write(b)
			fmt.Fprintln(&s, at, int(e))
		}
		c.On()
	}
	return s.String()
}

// same holds a device against what it should be.
func same(t *testing.T, what string, d, want *flash.Dev) {
	t.Helper()
	if picture(d) != picture(want) {
		t.Errorf("%s: the device is not as it should be: Stat %v, want %v; %v wait, want %v; losses %d, want %d", what, d.Stat(), want.Stat(), d.Waiting(), want.Waiting(), d.Losses(), want.Losses())
	}
}

// trial is a log, its device, and what it should be.
type trial struct {
	t      *testing.T
	d      *flash.Dev
	l      *Log
	p      *plain
	first  int
	losses int
}

// begin opens a log, and holds the answer, what was read for it, and what it tells.
func begin(t *testing.T, what string, d *flash.Dev, first, regions int) *trial {
	t.Helper()
	want := d.Copy()
	for at := range 4 * regions {
		want.Read(first + at)
	}
	l, e := Open(d, first, regions)
	if e != api.OK || l == nil {
		t.Fatalf("P9.1: %s: Open(%d, %d) of %d pages: %v, %d", what, first, regions, d.Pages(), l, e)
	}
	same(t, "P9.1: "+what+": Open", d, want)
	x := &trial{t, d, l, seen(cells(d, first, 4*regions)), first, d.Losses()}
	x.holds("P9.1: " + what)
	return x
}

// again opens another log where this one is.
func (x *trial) again(what string) *trial {
	x.t.Helper()
	return begin(x.t, what, x.d, x.first, len(x.p.shelves))
}

// crash lets the power go and come, and opens what is there then.
func (x *trial) crash(what string, picks ...byte) *trial {
	x.t.Helper()
	x.d.Crash(picks)
	x.d.On()
	return x.again(what)
}

func (x *trial) done() bool { return x.d.Losses() != x.losses }

// short tells items so that a message can be read.
func short(l []api.Item) string {
	var out []string
	for _, x := range l {
		out = append(out, fmt.Sprintf("%.20q %d+%d v%d", x.Key, len(x.Key), len(x.Value), x.Version))
	}
	return "[" + strings.Join(out, ", ") + "]"
}

// put puts an item, and holds what is lost, and the device.
func (x *trial) put(what string, y api.Item) ([]api.Item, api.Errno) {
	x.t.Helper()
	want := x.d.Copy()
	lost, e := x.p.put(want, x.first, x.done(), y)
	got, f := x.l.Put(y)
	if f != e || !slices.Equal(got, lost) {
		x.t.Errorf("P9.2: %s: Put(%s): %s, %d, want %s, %d", what, short([]api.Item{y}), short(got), f, short(lost), e)
	}
	same(x.t, "P9.2: "+what+": Put", x.d, want)
	return got, f
}

func (x *trial) seal(what string) ([]api.Item, api.Errno) {
	x.t.Helper()
	want := x.d.Copy()
	lost, e := x.p.seal(want, x.first, x.done())
	got, f := x.l.Seal()
	if f != e || !slices.Equal(got, lost) {
		x.t.Errorf("P9.2: %s: Seal: %s, %d, want %s, %d", what, short(got), f, short(lost), e)
	}
	same(x.t, "P9.2: "+what+": Seal", x.d, want)
	return got, f
}

func (x *trial) drop(key string) {
	x.p.drop(key)
	x.l.Drop(key)
}

// strange are keys that no test puts.
func strange() []string {
	return []string{"", "never", "\x00", "\xff\xfe", "日本語", strings.Repeat("n", 250), strings.Repeat("n", 251), strings.Repeat("n", 4000)}
}

// holds holds what a log tells out of memory against what it should: nothing of it touches the device.
func (x *trial) holds(what string, keys ...string) {
	x.t.Helper()
	ahead := x.d.Stat()
	if l := x.l.Items(); !slices.Equal(l, x.p.items()) {
		x.t.Errorf("%s: Items: %s, want %s", what, short(l), short(x.p.items()))
	}
	if n := x.l.Number(); n != x.p.number {
		x.t.Errorf("%s: Number: %d, want %d", what, n, x.p.number)
	}
	if n, want := x.l.Room(), 1472-len(records(itemsOf(x.p.open)...)); n != want {
		x.t.Errorf("%s: Room: %d, want %d", what, n, want)
	}
	keys = append(slices.Clone(keys), strange()...)
	for _, s := range append(x.p.rising(), shelf{things: x.p.open}) {
		for _, y := range s.things {
			keys = append(keys, y.x.Key)
		}
	}
	for _, key := range keys {
		want, f := x.p.get(key)
		if y, e := x.l.Get(key); y != want || e != f {
			x.t.Errorf("%s: Get(%.20q): %v, %d, want %v, %d", what, key, y, e, want, f)
		}
		if x.l.May(key) != (f == api.OK) {
			x.t.Errorf("%s: May(%.20q): %t", what, key, x.l.May(key))
		}
	}
	if x.d.Stat() != ahead {
		x.t.Errorf("P9.3: %s: the device is asked: %v, %v", what, ahead, x.d.Stat())
	}
}

// sized is an item whose record has so many bytes.
func sized(key string, size int, version uint64) api.Item {
	return api.Item{Key: key, Value: strings.Repeat("v", size-32-len(key)), Flags: uint32(version) << 7, Exp: -int64(version), Version: version}
}

// many are items of these sizes, with the keys a, b, c ..
func many(version uint64, sizes ...int) []api.Item {
	var l []api.Item
	for i, size := range sizes {
		l = append(l, sized(string(rune('a'+i)), size, version+uint64(i)))
	}
	return l
}

// lays writes a region's pages by hand.
func lays(d *flash.Dev, page int, n uint64, l ...api.Item) {
	for k, b := range sheets(n, records(l...)) {
		d.Write(page+k, b)
	}
}

func TestExamples(t *testing.T) {
	d := device(t, 8)
	l, e := Open(d, 0, 2)
	if e != api.OK {
		t.Fatalf("P9.1: example: Open: %d", e)
	}
	a, b := api.Item{Key: "a", Value: "v", Version: 1}, api.Item{Key: "a", Value: "w", Version: 2}
	if lost, e := l.Put(a); len(lost) > 0 || e != api.OK {
		t.Errorf("P9.2: example: Put(a): %v, %d", lost, e)
	}
	if lost, e := l.Seal(); len(lost) > 0 || e != api.OK {
		t.Errorf("P9.2: example: Seal: %v, %d", lost, e)
	}
	if lost, e := l.Put(b); len(lost) > 0 || e != api.OK {
		t.Errorf("P9.2: example: Put(a'): %v, %d", lost, e)
	}
	if x, e := l.Get("a"); x != b || e != api.OK {
		t.Errorf("P9.3: example: Get: %v, %d, want a'", x, e)
	}
	d.On()
	l, e = Open(d, 0, 2)
	if e != api.OK {
		t.Fatalf("P9.1: example: Open behind On: %d", e)
	}
	if x, e := l.Get("a"); x != a || e != api.OK {
		t.Errorf("P9.4: example: Get behind On: %v, %d, want a", x, e)
	}
}

// fits tells whether Open may be, in numbers that never run over.
func fits(n, first, regions int) bool {
	end := new(big.Int).Mul(big.NewInt(4), big.NewInt(int64(regions)))
	end.Add(end, big.NewInt(int64(first)))
	return first >= 0 && regions >= 1 && regions <= 64 && end.Cmp(big.NewInt(int64(n))) <= 0
}

func refused(t *testing.T, d *flash.Dev, first, regions int, want api.Errno) {
	t.Helper()
	l, e := Open(d, first, regions)
	if e != want {
		t.Errorf("P9.1: Open(%d, %d) of %d pages, power %t: %d, want %d", first, regions, d.Pages(), d.Power(), e, want)
	}
	if l != nil {
		t.Errorf("R2: Open(%d, %d): a log beside the error %d", first, regions, e)
	}
}

func TestOpenAtTheEdges(t *testing.T) {
	for _, n := range []int{1, 3, 4, 5, 8, 255, 256, 257, 260, 300, api.MaxPages} {
		d := device(t, n)
		d.Write(0, sheet(0, 1, nil))
		d.Flush()
		d.Write(n-1, sheet(3, 2, nil))
		off, armed := d.Copy(), d.Copy()
		off.Crash(nil)
		armed.Arm(1)
		ahead := []string{picture(d), picture(off), picture(armed)}
		edges := []int{math.MinInt, math.MinInt + 1, math.MinInt / 4, -1 << 62, -n - 1, -n, -64, -4, -2, -1, 0, 1, 2, 3, 4, n / 4, n/4 + 1, n - 257, n - 256, n - 255, n - 5, n - 4, n - 3, n - 2, n - 1, n, n + 1, 63, 64, 65, 66, 256, 257, 1 << 32, 1 << 60, 1 << 61, 1<<61 + 1, 1 << 62, 1<<62 + 1, math.MaxInt / 4, math.MaxInt - n, math.MaxInt - 256, math.MaxInt - 4, math.MaxInt - 3, math.MaxInt - 1, math.MaxInt}
		opens := 0
		for _, first := range edges {
			for _, regions := range edges {
				if fits(n, first, regions) {
					refused(t, off, first, regions, api.EOFF)
					if opens++; n <= 300 || opens%7 == 0 {
						begin(t, "a new device", d.Copy(), first, regions)
					}
					continue
				}
				for _, x := range []*flash.Dev{d, off, armed} {
					refused(t, x, first, regions, api.EARG)
				}
			}
		}
		if (opens == 0) != (n < 4) || ahead[0] != picture(d) || ahead[1] != picture(off) || ahead[2] != picture(armed) {
			t.Errorf("R3: Open that is refused changes the device of %d pages (%d are not)", n, opens)
		}
	}
}

// The last place that has room, and one past it, for each count of regions.
func TestOpenAtTheEnd(t *testing.T) {
	d := device(t, 260)
	for regions := 1; regions <= 64; regions++ {
		for first := range 260 {
			want := api.OK
			if first+4*regions > 260 {
				want = api.EARG
			}
			if l, e := Open(d, first, regions); e != want || (l == nil) != (e != api.OK) {
				t.Errorf("P9.1: Open(%d, %d) of 260 pages: %d, want %d", first, regions, e, want)
			}
		}
	}
}

// Open needs no step of the power: it neither writes nor flushes.
func TestOpenOfAnArmedDevice(t *testing.T) {
	d := device(t, 9)
	lays(d, 1, 1, many(1, 500, 600)...)
	d.Arm(1)
	x := begin(t, "an armed device", d, 1, 2)
	if len(x.l.Items()) != 2 || !d.Power() {
		t.Errorf("P9.1: an armed device: %v", x.l.Items())
	}
}

func TestWhereEachByteLies(t *testing.T) {
	y := api.Item{Key: "k", Value: strings.Repeat("w", 400), Flags: 0x14131211, Exp: 0x2827262524232221, Version: 0x3837363534333231}
	content := []byte{
		1, 0x90, 1, 82,
		0x11, 0x12, 0x13, 0x14,
		0x21, 0x22, 0x23, 0x24, 0x25, 0x26, 0x27, 0x28,
		0x31, 0x32, 0x33, 0x34, 0x35, 0x36, 0x37, 0x38,
	}
	table := crc32.MakeTable(crc32.Castagnoli)
	content = binary.LittleEndian.AppendUint32(content, crc32.Checksum(content, table))
	content = binary.LittleEndian.AppendUint32(content, crc32.Checksum([]byte(y.Key+y.Value), table))
	content = append(content, y.Key+y.Value...)
	d := device(t, 9)
	d.Write(5, []byte{82, 71, 0, 0, 0, 0, 0, 0, 0x40, 0x42, 0x43, 0x44, 0x45, 0x46, 0x47, 0x48})
	d.Flush()
	x := begin(t, "a number of eight bytes", d, 0, 2)
	if x.l.Number() != 0x4847464544434240 {
		t.Errorf("P9.1: Number: %x", x.l.Number())
	}
	x.put("each byte", y)
	x.seal("each byte")
	want := [4][]byte{
		append([]byte{82, 71, 0, 0, 0x70, 1, 0, 0, 0x41, 0x42, 0x43, 0x44, 0x45, 0x46, 0x47, 0x48}, content[:368]...),
		append([]byte{82, 71, 1, 0, 65, 0, 0, 0, 0x41, 0x42, 0x43, 0x44, 0x45, 0x46, 0x47, 0x48}, content[368:]...),
		{82, 71, 2, 0, 0, 0, 0, 0, 0x41, 0x42, 0x43, 0x44, 0x45, 0x46, 0x47, 0x48},
		{82, 71, 3, 0, 0, 0, 0, 0, 0x41, 0x42, 0x43, 0x44, 0x45, 0x46, 0x47, 0x48},
	}
	for k, p := range want {
		p = append(p, make([]byte, api.PageSize-len(p))...)
		if b, e := d.Read(4 + k); e != api.OK || !bytes.Equal(b, p) {
			t.Errorf("P9.2: the page %d: %v, %d, want %v", k, b, e, p)
		}
	}
	for _, at := range []int{0, 1, 2, 3, 8} {
		if _, e := d.Read(at); e != api.ENONE {
			t.Errorf("P9.2: the page %d, where nothing belongs: %d", at, e)
		}
	}
	x.again("each byte")
}

// Contents at each edge of the four parts.
func TestPartsOfTheContent(t *testing.T) {
	for _, size := range []int{33, 34, 100, 367, 368, 369, 500, 735, 736, 737, 1103, 1104, 1105, 1306, 1307, 1338, 1400, 1471, 1472} {
		d := device(t, 12)
		x := begin(t, "a new device", d, 0, 3)
		if size <= 1306 {
			x.put("parts", sized(strings.Repeat("k", min(size-32, 250)), size, 1))
		} else {
			x.put("parts", sized("k", size-700, 1))
			x.put("parts", sized("l", 700, 2))
		}
		x.seal("parts")
		total := 0
		for k := range 4 {
			b, e := d.Read(4 + k)
			if e != api.OK {
				t.Fatalf("P9.2: %d bytes: page %d: %d", size, k, e)
			}
			n := int(binary.LittleEndian.Uint32(b[4:8]))
			if n != max(0, min(368, size-368*k)) {
				t.Errorf("P9.2: %d bytes: %d on page %d", size, n, k)
			}
			total += n
		}
		if total != size {
			t.Errorf("P9.2: %d bytes: %d on all pages", size, total)
		}
		x.holds("P9.2: parts")
		if n := x.crash("parts", 0, 0, 0, 0); !slices.Equal(n.l.Items(), x.l.Items()) || len(n.l.Items()) == 0 {
			t.Errorf("P9.4: %d bytes: what is sealed is not there behind a crash", size)
		}
	}
}

// A region's number tells its place, whatever the first page and the count are.
func TestWhichPlace(t *testing.T) {
	for _, regions := range []int{1, 2, 3, 5, 7, 20, 64} {
		for _, first := range []int{0, 1, 6}[:min(3, 1+30/regions)] {
			d := device(t, first+4*regions+2)
			x := begin(t, "a new device", d, first, regions)
			for n := 1; n <= 2*regions+3; n++ {
				x.put("which place", sized(fmt.Sprint("k", n), 50, uint64(n)))
				lost, e := x.seal("which place")
				if e != api.OK || x.l.Number() != uint64(n) {
					t.Errorf("P9.2: Seal of number %d: %d, %d", n, e, x.l.Number())
				}
				if want := n - regions; want >= 1 && (len(lost) != 1 || lost[0] != sized(fmt.Sprint("k", want), 50, uint64(want))) || want < 1 && len(lost) > 0 {
					t.Errorf("P9.2: Seal of number %d of %d regions: lost %s", n, regions, short(lost))
				}
				b, e := d.Read(first + 4*(n%regions))
				if e != api.OK || b[8] != byte(n) {
					t.Errorf("P9.2: region %d of %d does not stand in place %d: %d, %d", n, regions, n%regions, b[8], e)
				}
				x.holds("P9.2: which place")
			}
			if len(d.Waiting()) > 0 {
				t.Errorf("P9.2: %v wait behind Seal", d.Waiting())
			}
			n := x.crash("which place", 0, 0, 0, 0, 0, 0)
			if !slices.Equal(n.l.Items(), x.l.Items()) || n.l.Number() != x.l.Number() {
				t.Errorf("P9.4: what is sealed is not there behind a crash")
			}
		}
	}
}

// numberAt sets the next number of a log by a page that does not count.
func numberAt(t *testing.T, n uint64, regions int) *trial {
	d := device(t, 4*regions)
	d.Write(4*regions-1, sheet(0, n, nil))
	d.Flush()
	return begin(t, "a number by hand", d, 0, regions)
}

// Great numbers, where a number taken as one with a sign would have another remainder, or none.
func TestGreatNumbers(t *testing.T) {
	for _, at := range []uint64{1<<31 - 2, 1<<32 - 2, 1<<63 - 3, 1<<63 - 2, 1<<63 - 1, 1 << 63, 1<<63 + 5, math.MaxUint64 - 7, math.MaxUint64 - 3} {
		for _, regions := range []int{1, 2, 3, 5, 7} {
			x := numberAt(t, at, regions)
			for n := range 3 {
				x.put("great numbers", sized(fmt.Sprint("k", n), 400, uint64(n+1)))
				x.seal("great numbers")
				if x.l.Number() != at+uint64(n)+1 {
					t.Errorf("P9.2: Number: %d, want %d", x.l.Number(), at+uint64(n)+1)
				}
				x.holds("P9.2: great numbers")
			}
			x.crash("great numbers")
		}
	}
}

func TestWorn(t *testing.T) {
	for _, regions := range []int{1, 2, 3} {
		x := numberAt(t, math.MaxUint64-1, regions)
		old := many(1, 300, 300)
		for _, y := range old {
			x.put("the last number", y)
		}
		if lost, e := x.seal("the last number"); len(lost) > 0 || e != api.OK || x.l.Number() != math.MaxUint64 {
			t.Errorf("P9.2: Seal of the last number: %v, %d, %d", lost, e, x.l.Number())
		}
		if lost, e := x.seal("nothing is open"); len(lost) > 0 || e != api.OK {
			t.Errorf("P9.2: Seal of nothing behind the greatest number: %v, %d", lost, e)
		}
		y := sized("y", 1000, 9)
		if lost, e := x.put("there is room", y); len(lost) > 0 || e != api.OK {
			t.Errorf("P9.2: Put where there is room: %v, %d", lost, e)
		}
		x.d.Arm(1)
		for range 2 {
			if lost, e := x.seal("worn"); len(lost) > 0 || e != api.EWORN {
				t.Errorf("P9.2: Seal behind the greatest number: %v, %d", lost, e)
			}
			if lost, e := x.put("worn", sized("z", 473, 10)); len(lost) > 0 || e != api.EWORN || x.l.May("z") {
				t.Errorf("P9.2: Put without room behind the greatest number: %v, %d", lost, e)
			}
			if lost, e := x.put("worn", sized("a", 1050, 11)); len(lost) > 0 || e != api.EWORN {
				t.Errorf("P9.2: Put of a key that is there: %v, %d", lost, e)
			}
			if !slices.Equal(x.l.Items(), append(slices.Clone(old), y)) {
				t.Errorf("R3: EWORN changes what is kept: %s", short(x.l.Items()))
			}
			x.holds("R3: worn", "z")
		}
		if lost, e := x.put("just room", sized("z", 472, 12)); len(lost) > 0 || e != api.OK {
			t.Errorf("P9.2: Put of what has just room: %v, %d", lost, e)
		}
		x.d.Arm(0)
		n := x.crash("worn")
		if !slices.Equal(n.l.Items(), old) || n.l.Number() != math.MaxUint64 {
			t.Errorf("P9.4: behind EWORN: %s, %d", short(n.l.Items()), n.l.Number())
		}
	}
}

// wrong are items that Put refuses.
func wrong() []api.Item {
	return []api.Item{
		{},
		{Key: "k"},
		{Key: "k", Value: "v"},
		{Value: "v", Version: 1},
		{Version: 1},
		{Key: strings.Repeat("k", 251), Version: 1},
		{Key: strings.Repeat("k", 256), Version: 1},
		{Key: strings.Repeat("k", 257), Version: 1},
		{Key: strings.Repeat("k", 100000), Version: 1},
		{Key: "k", Value: strings.Repeat("v", 1025), Version: 1},
		{Key: "k", Value: strings.Repeat("v", 65536), Version: 1},
		{Key: "k", Value: strings.Repeat("v", 65537), Version: 1},
		{Key: "k", Value: strings.Repeat("v", 1024)},
		{Key: strings.Repeat("k", 250), Value: strings.Repeat("v", 1025), Version: math.MaxUint64},
		{Key: strings.Repeat("k", 251), Value: strings.Repeat("v", 1024), Version: math.MaxUint64},
		sized("k", 1471, 1), sized("k", 1472, 1), sized("k", 1473, 1),
		sized(strings.Repeat("k", 250), 1307, 1), sized(strings.Repeat("k", 250), 1472, 1), sized(strings.Repeat("k", 250), 1473, 1),
		sized(strings.Repeat("k", 416), 1472, 1), sized(strings.Repeat("k", 417), 1473, 1),
	}
}

func (x *trial) refuses(what string) {
	x.t.Helper()
	for _, y := range wrong() {
		if lost, e := x.put(what, y); len(lost) > 0 || e != api.EARG {
			x.t.Errorf("P9.2: %s: Put of a key of %d and a value of %d bytes, version %d: %v, %d", what, len(y.Key), len(y.Value), y.Version, lost, e)
		}
	}
	x.holds("R3: "+what+": behind Puts that are refused", "k")
}

func TestPutRefused(t *testing.T) {
	d := device(t, 9)
	x := begin(t, "a new device", d, 1, 2)
	x.refuses("a new device")
	for i, size := range []int{400, 1000, 1306, 1306, 1306} {
		x.put("refused", sized(strings.Repeat(string(rune('k'+i)), 250), size, uint64(i+1)))
		x.refuses("regions")
	}
	d.Arm(1)
	x.refuses("an armed device")
	d.Crash(nil)
	x.refuses("the power is off")
	d.On()
	x.refuses("the log is done")
	x = numberAt(t, math.MaxUint64, 2)
	x.put("the greatest number", sized("full", 1000, 1))
	x.refuses("the greatest number")
}

// Items at the limits, and of each length of the key.
func TestPutOfEachSize(t *testing.T) {
	for key := 1; key <= 250; key++ {
		x := begin(t, "a new device", device(t, 4), 0, 1)
		name := strings.Repeat("\xff", key)
		for _, size := range []int{32 + key, 33 + key, 1055 + key, 1056 + key} {
			y := sized(name, size, math.MaxUint64)
			y.Flags, y.Exp = math.MaxUint32, math.MinInt64
			if _, e := x.put("each size", y); e != api.OK {
				t.Errorf("P9.2: a key of %d bytes, a record of %d: %d", key, size, e)
			}
			if got, e := x.l.Get(name); got != y || e != api.OK {
				t.Errorf("P9.3: a key of %d bytes, a record of %d: %d", key, size, e)
			}
		}
		x.seal("each size")
		if n := x.crash("each size"); !slices.Equal(n.l.Items(), x.l.Items()) || len(n.l.Items()) != 1 {
			t.Errorf("P9.4: a key of %d bytes: %s", key, short(n.l.Items()))
		}
	}
}

// What has just room stays in the open region; one byte more, and it is sealed first.
func TestRoom(t *testing.T) {
	for i, sizes := range [][]int{
		{472, 1000}, {739, 733}, {736, 736}, {500, 500, 472}, {1040, 382, 50}, {368, 368, 368, 368}, {1000, 40, 40, 40, 40, 40, 232, 40},
	} {
		for _, more := range []int{-2, -1, 0, 1, 2} {
			sizes := slices.Clone(sizes)
			sizes[len(sizes)-1] += more
			roomFor(t, fmt.Sprintf("number %d, %d more", i, more), many(1, sizes...))
		}
	}
	for key := 240; key <= 250; key++ {
		greatest := sized(strings.Repeat("k", key), 1056+key, 99)
		for more := -2; more <= 2; more++ {
			roomFor(t, fmt.Sprintf("a key of %d bytes, %d more", key, more), []api.Item{sized("a", 1472-1056-key+more, 1), greatest})
			roomFor(t, fmt.Sprintf("a key of %d bytes first, %d more", key, more), []api.Item{greatest, sized("a", 1472-1056-key+more, 1)})
		}
	}
}

// roomFor puts items of which at most the last one has no room.
func roomFor(t *testing.T, what string, l []api.Item) {
	t.Helper()
	d := device(t, 8)
	x := begin(t, "a new device", d, 0, 2)
	for _, y := range l {
		if lost, e := x.put(what, y); len(lost) > 0 || e != api.OK {
			t.Errorf("P9.2: %s: Put: %v, %d", what, lost, e)
		}
	}
	total, want := len(records(l...)), 0
	if total > 1472 {
		want = 1
	}
	if seals := d.Stat().Flushes; seals != want || x.l.Number() != uint64(want) {
		t.Errorf("P9.2: %s: %d bytes: sealed %d times, number %d", what, total, seals, x.l.Number())
	}
	if !slices.Equal(x.l.Items(), l) {
		t.Errorf("P9.3: %s: Items: %s", what, short(x.l.Items()))
	}
	x.holds("P9.2: " + what)
	if n := x.again(what); !slices.Equal(n.l.Items(), l[:want*(len(l)-1)]) {
		t.Errorf("P9.1: %s: opened anew: %s", what, short(n.l.Items()))
	}
}

// A region that is full to its last byte takes what comes next to a new one, however small it is.
func TestFullToTheLastByte(t *testing.T) {
	x := begin(t, "a new device", device(t, 4), 0, 1)
	for _, y := range many(1, 1000, 472) {
		x.put("full", y)
	}
	if x.l.Number() != 0 || x.d.Stat().Writes > 0 {
		t.Errorf("P9.2: 1472 bytes are sealed ahead of need: %d", x.l.Number())
	}
	x.put("the least", api.Item{Key: "z", Version: 9})
	if x.l.Number() != 1 || x.d.Stat() != (flash.Stat{Writes: 4, Flushes: 1, Reads: 4}) {
		t.Errorf("P9.2: %d, %v", x.l.Number(), x.d.Stat())
	}
	x.holds("P9.2: full to the last byte")
}

func TestSealOfNothing(t *testing.T) {
	d := device(t, 8)
	x := begin(t, "a new device", d, 0, 2)
	d.Write(3, []byte{1})
	for range 3 {
		if lost, e := x.seal("nothing"); len(lost) > 0 || e != api.OK {
			t.Errorf("P9.2: Seal of nothing: %v, %d", lost, e)
		}
	}
	if s := d.Stat(); s.Writes != 1 || s.Flushes != 0 || len(d.Waiting()) != 1 {
		t.Errorf("P9.2: Seal of nothing: %v, %v wait", s, d.Waiting())
	}
	x.put("something", sized("a", 50, 1))
	x.seal("something")
	d.Arm(1)
	if lost, e := x.seal("nothing"); len(lost) > 0 || e != api.OK || x.l.Number() != 1 || !d.Power() {
		t.Errorf("P9.2: Seal of nothing: %v, %d, %d", lost, e, x.l.Number())
	}
	x.holds("P9.2: Seal of nothing")
}

// Seal flushes all that waits on the device, and not its own pages alone.
func TestSealFlushes(t *testing.T) {
	d := device(t, 9)
	x := begin(t, "a new device", d, 1, 2)
	d.Write(0, []byte{7})
	x.put("flush", sized("a", 50, 1))
	if len(d.Waiting()) != 1 {
		t.Errorf("P9.2: Put flushes, or writes: %v", d.Waiting())
	}
	x.seal("flush")
	if len(d.Waiting()) != 0 || d.Stat().Flushes != 1 || d.Stat().Writes != 5 {
		t.Errorf("P9.2: behind Seal: %v wait, %v", d.Waiting(), d.Stat())
	}
}

// What is dropped is no longer what its key has, but its record stands in the open region, and is sealed.
func TestDropInTheOpenRegion(t *testing.T) {
	x := begin(t, "a new device", device(t, 8), 0, 2)
	y := sized("a", 1000, 1)
	x.put("Drop", y)
	x.drop("a")
	x.holds("P9.3: Drop in the open region", "a")
	if lost, e := x.put("its room is taken", sized("b", 473, 2)); len(lost) > 0 || e != api.OK || x.l.Number() != 1 {
		t.Errorf("P9.2: Put behind Drop: %v, %d, %d", lost, e, x.l.Number())
	}
	x.holds("P9.3: Drop", "a")
	if n := x.again("Drop"); !slices.Equal(n.l.Items(), []api.Item{y}) {
		t.Errorf("P9.1: what was dropped, opened anew: %s", short(n.l.Items()))
	}
	x.drop("b")
	if _, e := x.seal("all are dropped"); e != api.OK || x.l.Number() != 2 || len(x.l.Items()) > 0 {
		t.Errorf("P9.2: Seal of what was dropped: %d, %d, %s", e, x.l.Number(), short(x.l.Items()))
	}
	if n := x.again("Drop"); len(n.l.Items()) != 2 {
		t.Errorf("P9.1: what was dropped, opened anew: %s", short(n.l.Items()))
	}
}

func TestDrop(t *testing.T) {
	for k := range 6 {
		key := string(rune('a' + k))
		x := begin(t, "a new device", device(t, 12), 0, 3)
		for i, y := range many(1, 600, 600, 600, 600, 600, 600) {
			x.put("Drop", y)
			if i == 1 {
				x.put("Drop", sized("twice", 100, 50))
				x.put("Drop", sized("twice", 101, 51))
			}
		}
		ahead := picture(x.d)
		for _, other := range append(strange(), key+key, "A", "aa", "\x00"+key) {
			x.drop(other)
		}
		x.holds("P9.3: Drop of what is not there")
		x.drop(key)
		x.holds("P9.3: Drop")
		x.drop(key)
		x.drop("twice")
		x.holds("P9.3: Drop of what was dropped")
		if x.l.May(key) || x.l.May("twice") || len(x.l.Items()) != 5 {
			t.Errorf("P9.3: Drop of %s: %s", key, short(x.l.Items()))
		}
		if picture(x.d) != ahead {
			t.Errorf("P9.3: Drop changes the device")
		}
		n := x.again("Drop")
		if len(n.l.Items()) != 5 || n.l.May(key) != (k < 4) || !n.l.May("twice") {
			t.Errorf("P9.3: Drop of %s is not undone by Open: %s", key, short(n.l.Items()))
		}
		x.put("put anew", sized(key, 60, 90))
		if y, e := x.l.Get(key); y.Version != 90 || e != api.OK {
			t.Errorf("P9.3: Get of what was dropped, and put anew: %v, %d", y, e)
		}
		x.holds("P9.3: put anew")
	}
}

// What Seal tells to be lost: of its region, in its order, what was neither dropped nor put anew since.
func TestLost(t *testing.T) {
	for i, c := range []struct {
		calls string // put a key, / is Seal, - ahead of a key: Drop
		lost  string // by the last Seal
		left  string
	}{
		{"abc/", "", "a1 b2 c3"},
		{"abc/d/", "", "a1 b2 c3 d4"},
		{"abc/d/e/", "a1 b2 c3", "d4 e5"},
		{"cba/d/e/", "c1 b2 a3", "d4 e5"},
		{"abc/b/e/", "a1 c3", "b4 e5"},
		{"abc/d/b/", "a1 c3", "d4 b5"},
		{"abc/bb/bb/", "a1 c3", "b7"},
		{"abc/-bd/e/", "a1 c3", "d4 e5"},
		{"abc/-b-a-cd/e/", "", "d4 e5"},
		{"abc/-bb/e/", "a1 c3", "b4 e5"},
		{"abc/b-b/e/", "a1 c3", "e5"},
		{"aab/d/e/", "a2 b3", "d4 e5"},
		{"aba/d/e/", "b2 a3", "d4 e5"},
		{"aa/-ad/e/", "", "d3 e4"},
		{"aaa/d/e/", "a3", "d4 e5"},
		{"a/a/a/", "", "a3"},
		{"a/a/b/", "", "a2 b3"},
		{"a/a/b/c/", "a2", "b3 c4"},
		{"a/a/-ab/c/", "", "b3 c4"},
		{"abc/de/fg/", "a1 b2 c3", "d4 e5 f6 g7"},
		{"abc/de/fg/hi/", "d4 e5", "f6 g7 h8 i9"},
		{"abc/de/fg/hi/-g/", "", "f6 h8 i9"},
		{"ab/cd/a-ae/", "b2", "c3 d4 e6"},
		{"ab/cd/e-e/", "a1 b2", "c3 d4"},
	} {
		x := begin(t, "a new device", device(t, 8), 0, 2)
		var lost []api.Item
		version, dropping := uint64(0), false
		for _, r := range c.calls {
			switch {
			case r == '/':
				lost, _ = x.seal("lost")
			case r == '-':
				dropping = true
			case dropping:
				x.drop(string(r))
				dropping = false
			default:
				version++
				x.put("lost", sized(string(r), 60, version))
			}
		}
		if got := versions(lost); got != c.lost {
			t.Errorf("P9.2: number %d: lost %q, want %q", i, got, c.lost)
		}
		if got := versions(x.l.Items()); got != c.left {
			t.Errorf("P9.3: number %d: left %q, want %q", i, got, c.left)
		}
		x.holds("P9.2: lost", "a", "b", "c", "d", "e")
	}
}

// versions tells items by their keys and versions.
func versions(l []api.Item) string {
	var out []string
	for _, x := range l {
		out = append(out, fmt.Sprint(x.Key, x.Version))
	}
	return strings.Join(out, " ")
}

// Items that are the same in all are still several: the last one is what the key has.
func TestTheSameAgain(t *testing.T) {
	for _, regions := range []int{1, 2, 3} {
		x := begin(t, "a new device", device(t, 4*regions), 0, regions)
		y, z := sized("y", 60, 1), sized("z", 60, 2)
		for range 7 {
			x.put("the same", y)
			x.put("the same", z)
			x.put("the same", y)
			x.holds("P9.3: the same again")
			lost, _ := x.seal("the same")
			if len(lost) > 0 {
				t.Errorf("P9.2: %d regions: lost though it was put anew: %s", regions, short(lost))
			}
			if got := versions(x.l.Items()); got != "z2 y1" {
				t.Errorf("P9.3: %d regions: %s", regions, got)
			}
			if got := versions(x.again("the same").l.Items()); got != "z2 y1" {
				t.Errorf("P9.1: %d regions: opened anew: %s", regions, got)
			}
		}
		x.drop("y")
		for range regions {
			x.put("the last", sized("w", 60, 5))
			x.seal("the last")
		}
		if got := versions(x.l.Items()); got != "w5" {
			t.Errorf("P9.2: %d regions: %s", regions, got)
		}
	}
}

// Of a Put that seals, Seal comes first: what its own key had is lost, and told.
func TestPutThatSeals(t *testing.T) {
	x := begin(t, "a new device", device(t, 4), 0, 1)
	for _, y := range many(1, 500, 500, 400) {
		x.put("ahead", y)
	}
	if lost, e := x.put("the first", sized("x", 1000, 4)); len(lost) > 0 || e != api.OK {
		t.Errorf("P9.2: Put that seals the first one: %v, %d", lost, e)
	}
	lost, e := x.put("the second", sized("b", 900, 5))
	if versions(lost) != "a1 b2 c3" || e != api.OK || versions(x.l.Items()) != "x4 b5" {
		t.Errorf("P9.2: Put that seals: lost %s, %d; %s", versions(lost), e, versions(x.l.Items()))
	}
	lost, e = x.put("the third", sized("b", 900, 6))
	if versions(lost) != "x4" || e != api.OK || versions(x.l.Items()) != "b6" {
		t.Errorf("P9.2: Put that seals: lost %s, %d; %s", versions(lost), e, versions(x.l.Items()))
	}
	x.drop("b")
	lost, e = x.put("the fourth", sized("c", 900, 7))
	if len(lost) > 0 || e != api.OK || versions(x.l.Items()) != "c7" {
		t.Errorf("P9.2: Put that seals: lost %s, %d; %s", versions(lost), e, versions(x.l.Items()))
	}
	x.holds("P9.2: Put that seals", "a", "b", "c", "x")
}

// A version is not asked: an elder one takes a younger one's place.
func TestVersionsAreNotAsked(t *testing.T) {
	x := begin(t, "a new device", device(t, 8), 0, 2)
	for i, version := range []uint64{math.MaxUint64, 7, 7, 1, 1 << 63, 2} {
		x.put("versions", sized("a", 60, version))
		if y, e := x.l.Get("a"); y.Version != version || e != api.OK {
			t.Errorf("P9.2: Put of the version %d: %v, %d", version, y, e)
		}
		if i%2 == 1 {
			x.seal("versions")
			if y, e := x.again("versions").l.Get("a"); y.Version != version || e != api.OK {
				t.Errorf("P9.1: the version %d, opened anew: %v, %d", version, y, e)
			}
		}
	}
}

func TestItemsAreByNumber(t *testing.T) {
	x := begin(t, "a new device", device(t, 20), 0, 5)
	want := ""
	for n := 1; n <= 13; n++ {
		l := []string{}
		for k := 5; k > 0; k-- {
			y := sized(fmt.Sprintf("k%d-%d-", n, k), 60, uint64(n))
			x.put("Items", y)
			l = append(l, fmt.Sprint(y.Key, n))
		}
		want = strings.TrimSpace(want + " " + strings.Join(l, " "))
		x.holds("P9.3: Items with the open region")
		if n > 5 {
			want = strings.Join(strings.Split(want, " ")[5:], " ")
		}
		x.seal("Items")
		if got := versions(x.l.Items()); got != want {
			t.Errorf("P9.3: Items: %s, want %s", got, want)
		}
		if got := versions(x.again("Items").l.Items()); got != want {
			t.Errorf("P9.1: Items, opened anew: %s, want %s", got, want)
		}
	}
}

// kind is a way in which a region may stand.
type kind struct {
	name  string
	pages [4]cell
	list  []api.Item // that it tells
	told  uint64     // its greatest number
}

func four(p [4][]byte) [4]cell {
	var l [4]cell
	for k := range p {
		l[k] = wholeCell(p[k])
	}
	return l
}

// with is a region with one page as another one.
func with(l [4]cell, at int, c cell) [4]cell {
	l[at] = c
	return l
}

// byteAt is a page with another byte.
func byteAt(c cell, at int, to byte) cell {
	b := []byte(c.text)
	b[at] = to
	return cell{"whole", string(b)}
}

// kinds are regions of every kind, of a number, with keys that begin with a letter.
func kinds(n uint64, letter string) []kind {
	item := func(k string, size int) api.Item { return sized(letter+k, size, n*10+uint64(len(k))) }
	l := []api.Item{item("a", 400), item("bb", 500), item("ccc", 572)}
	two := l[:2]
	good := four(sheets(n, records(l...)))
	some := four(sheets(n, records(two...)))
	blank, torn := cell{kind: "blank"}, cell{kind: "torn"}
	again := []api.Item{item("a", 300), item("bb", 300), sized(letter+"a", 301, n*10+7), sized(letter+"a", 302, n*10+8), item("dddd", 60)}
	list := func(p ...[]byte) [4]cell {
		return [4]cell{wholeCell(sheet(0, n, p[0])), wholeCell(sheet(1, n, p[1])), wholeCell(sheet(2, n, p[2])), wholeCell(sheet(3, n, p[3]))}
	}
	b := records(two...)
	out := []kind{
		{"blank", [4]cell{blank, blank, blank, blank}, nil, 0},
		{"torn", [4]cell{torn, torn, torn, torn}, nil, 0},
		{"full", good, l, n},
		{"three pages", some, two, n},
		{"empty", four(sheets(n, nil)), nil, n},
		{"keys again", four(sheets(n, records(again...))), []api.Item{again[1], again[3], again[4]}, n},
		{"noughts", four([4][]byte{}), nil, 0},
		{"the number 0", four(sheets(0, records(two...))), nil, 0},
		{"pages of other sizes", list(b[:100], b[100:300], nil, b[300:620]), nil, n},
		{"pages of other sizes, all of it", list(b[:100], b[100:468], b[468:700], b[700:]), two, n},
		{"all on the last ones", list(nil, b[:268], b[268:600], b[600:]), two, n},
		{"a nought ahead", list(append([]byte{0}, b[:367]...), b[367:735], b[735:], nil), nil, n},
		{"a nought behind the first", list(append(b[:400:400], 0, 9, 9)[:368], append(b[368:400:400], 0, 9, 9), []byte{9}, []byte{8}), l[:1], n},
		{"a nought at the end", list(b[:368], b[368:736], append(b[736:len(b):len(b)], 0), nil), two, n},
		{"something behind the list", list(b[:368], b[368:736], append(b[736:len(b):len(b)], 1), nil), nil, n},
		{"something behind the list, on the next page", list(b[:368], b[368:736], b[736:], []byte{1}), nil, n},
		{"something behind what is told", with(some, 3, byteAt(some[3], 16, 1)), two, n},
		{"something at the page's end", with(some, 2, byteAt(some[2], 383, 255)), two, n},
		{"one byte is missing", list(b[:368], b[368:736], b[736:len(b)-1], nil), nil, n},
		{"one byte is missing ahead", list(b[1:368], b[368:736], b[736:], nil), nil, n},
		{"a version 0", four(sheets(n, records(l[0], api.Item{Key: "none"}))), nil, n},
		{"a key too long", four(sheets(n, records(l[0], sized(strings.Repeat("k", 251), 300, 1)))), nil, n},
		{"a value too long", four(sheets(n, records(sized("k", 1058, 1)))), nil, n},
		{"pages turned round", [4]cell{good[3], good[2], good[1], good[0]}, nil, n},
		{"one place twice", with(good, 1, good[0]), nil, n},
		{"two pages changed over", with(with(good, 1, good[2]), 2, good[1]), nil, n},
	}
	for at := range 4 {
		name := fmt.Sprintf("page %d ", at)
		higher, lower, nought := good[at], good[at], good[at]
		higher, lower = byteAt(higher, 15, 1), byteAt(lower, 8, byte(n-1))
		for k := 8; k < 16; k++ {
			nought = byteAt(nought, k, 0)
		}
		empty := wholeCell(sheet(byte(at), n, nil))
		out = append(out,
			kind{name + "blank", with(good, at, blank), nil, n},
			kind{name + "torn", with(good, at, torn), nil, n},
			kind{name + "of noughts", with(good, at, wholeCell(nil)), nil, n},
			kind{name + "of the first byte 81", with(good, at, byteAt(good[at], 0, 81)), nil, n},
			kind{name + "of the first byte 0", with(good, at, byteAt(good[at], 0, 0)), nil, n},
			kind{name + "of the second byte 70", with(good, at, byteAt(good[at], 1, 70)), nil, n},
			kind{name + "of the next place", with(good, at, byteAt(good[at], 2, byte(at+1))), nil, n},
			kind{name + "of place 255", with(good, at, byteAt(good[at], 2, 255)), nil, n},
			kind{name + "of a fourth byte 1", with(good, at, byteAt(good[at], 3, 1)), nil, n},
			kind{name + "of a fourth byte 128", with(good, at, byteAt(good[at], 3, 128)), nil, n},
			kind{name + "of a greater number", with(good, at, higher), nil, n + 1<<56},
			kind{name + "of a smaller number", with(good, at, lower), nil, n},
			kind{name + "of the number 0", with(good, at, nought), nil, n},
			kind{name + "of 367 bytes", with(good, at, byteAt(good[at], 4, 0x6f)), nil, n},
			kind{name + "of 369 bytes", with(good, at, byteAt(good[at], 4, 0x71)), nil, n},
			kind{name + "of very many bytes", with(good, at, byteAt(good[at], 7, 255)), nil, n},
			kind{name + "of 65536 bytes more", with(good, at, byteAt(good[at], 6, 1)), nil, n},
			kind{name + "empty", with(good, at, empty), nil, n},
			kind{name + "spoilt", with(good, at, byteAt(good[at], 200, good[at].text[200]^1)), nil, n},
			kind{name + "alone", with([4]cell{blank, torn, blank, torn}, at, good[at]), nil, n},
			kind{name + "alone, of place 77", with([4]cell{blank, torn, blank, torn}, at, byteAt(good[at], 2, 77)), nil, n},
			kind{name + "alone, of a fourth byte 1", with([4]cell{blank, torn, blank, torn}, at, byteAt(good[at], 3, 1)), nil, 0},
			kind{name + "alone, of 369 bytes", with([4]cell{blank, torn, blank, torn}, at, byteAt(good[at], 4, 0x71)), nil, 0},
			kind{name + "alone, of 368 bytes", with([4]cell{blank, torn, blank, torn}, at, wholeCell(sheet(9, n, bytes.Repeat([]byte{1}, 368)))), nil, n},
			kind{name + "alone, begins 82, 72", with([4]cell{blank, torn, blank, torn}, at, byteAt(good[at], 1, 72)), nil, 0},
			kind{name + "alone, begins 71, 71", with([4]cell{blank, torn, blank, torn}, at, byteAt(good[at], 0, 71)), nil, 0},
		)
	}
	return out
}

// stood makes a device of pages as they are given, all flushed.
func stood(t *testing.T, l ...cell) *flash.Dev {
	d := device(t, len(l))
	for at, c := range l {
		if c.kind == "torn" {
			d.Write(at, []byte("torn"))
		}
	}
	d.Crash(bytes.Repeat([]byte{2}, len(l)))
	d.On()
	for at, c := range l {
		if c.kind == "whole" {
			d.Write(at, []byte(c.text))
		}
	}
	d.Flush()
	return d
}

// Each kind of region alone: whether it counts, what it tells, and what Number is.
func TestRegionsOfEveryKind(t *testing.T) {
	for _, k := range kinds(41, "k") {
		outside := wholeCell(sheet(0, 1<<60, nil))
		d := stood(t, outside, k.pages[0], k.pages[1], k.pages[2], k.pages[3], outside)
		x := begin(t, k.name, d, 1, 1)
		if got := x.l.Items(); !slices.Equal(got, k.list) {
			t.Errorf("P9.1: %s: %s, want %s", k.name, short(got), short(k.list))
		}
		if got := x.l.Number(); got != k.told {
			t.Errorf("P9.1: %s: Number %d, want %d", k.name, got, k.told)
		}
		y := sized("new", 60, 1)
		x.put(k.name, y)
		lost, e := x.seal(k.name)
		if !slices.Equal(lost, k.list) || e != api.OK || x.l.Number() != k.told+1 {
			t.Errorf("P9.2: %s: Seal: %s, %d, %d", k.name, short(lost), e, x.l.Number())
		}
		if got := x.crash(k.name).l.Items(); !slices.Equal(got, []api.Item{y}) {
			t.Errorf("P9.4: %s: sealed anew: %s", k.name, short(got))
		}
	}
}

// Each kind beside each other kind: the numbers say which comes first, wherever they stand.
func TestKindsBesideEachOther(t *testing.T) {
	high, low, other := kinds(46, "k"), kinds(41, "k"), kinds(44, "m")
	for a := range high {
		for b := range low {
			if a > 25 && b > 25 && (a+b)%23 > 0 {
				continue
			}
			c := (a*7 + b) % len(other)
			l := slices.Concat(high[a].pages[:], low[b].pages[:], other[c].pages[:])
			what := fmt.Sprintf("%s, %s, %s", high[a].name, low[b].name, other[c].name)
			d := stood(t, l...)
			x := begin(t, what, d, 0, 3)
			if n := max(high[a].told, low[b].told, other[c].told); x.l.Number() != n {
				t.Errorf("P9.1: %s: Number %d, want %d", what, x.l.Number(), n)
			}
			var want []api.Item
			for _, y := range low[b].list {
				if !slices.ContainsFunc(high[a].list, func(z api.Item) bool { return z.Key == y.Key }) {
					want = append(want, y)
				}
			}
			want = slices.Concat(want, other[c].list, high[a].list)
			if got := x.l.Items(); !slices.Equal(got, want) {
				t.Errorf("P9.1: %s: %s, want %s", what, short(got), short(want))
			}
			if (a+b)%4 == 0 {
				for n := range 4 {
					x.put(what, sized(fmt.Sprint("n", n), 100, 9))
					x.put(what, sized("kbb", 1050, 9))
					x.holds("P9.2: " + what)
				}
				x.crash(what)
			}
			if t.Failed() {
				return
			}
		}
	}
}

// A region counts by what its pages say: its number need not be one of its place, and two may be the same.
func TestNumbersByHand(t *testing.T) {
	a, b, c := many(1, 60, 60, 60), many(11, 70, 70, 70), many(21, 80, 80)
	d := device(t, 12)
	lays(d, 0, 5, a...)
	lays(d, 4, 9, c...)
	lays(d, 8, 7, b...)
	x := begin(t, "numbers of other places", d, 0, 3)
	if got := versions(x.l.Items()); got != "c13 a21 b22" || x.l.Number() != 9 {
		t.Errorf("P9.1: numbers of other places: %s, %d", got, x.l.Number())
	}
	for i, want := range []string{"a21 b22", "c13", "", "y1"} { // the places 1, 2, 0, 1
		x.put("other places", sized("x", 60, uint64(i+1)))
		x.put("other places", sized(string(rune('y'-i)), 60, uint64(i+1)))
		if lost, e := x.seal("other places"); versions(lost) != want || e != api.OK {
			t.Errorf("P9.2: Seal of number %d: lost %s, %d, want %s", 10+i, versions(lost), e, want)
		}
		x.holds("P9.2: other places")
	}
	d = device(t, 8)
	lays(d, 0, 5, a[0], a[1])
	lays(d, 4, 5, b[1], b[2])
	x = begin(t, "one number twice", d, 0, 2)
	if got := versions(x.l.Items()); got != "a1 b12 c13" || x.l.Number() != 5 {
		t.Errorf("P9.1: one number twice: %s, %d", got, x.l.Number())
	}
}

// One key in each of several regions: the region with the greatest number has it, in whatever place.
func TestOneKeyInSeveralRegions(t *testing.T) {
	r := rand.New(rand.NewSource(9))
	for range 60 {
		regions := 2 + r.Intn(6)
		d := device(t, 4*regions)
		order := r.Perm(regions)
		for place, n := range order {
			lays(d, 4*place, uint64(n+1), sized("k", 100, uint64(n+100)), sized(fmt.Sprint("o", n), 60, 1), sized("k", 101, uint64(n+200)))
		}
		x := begin(t, "several regions", d, 0, regions)
		if y, e := x.l.Get("k"); e != api.OK || y.Version != uint64(regions-1+200) {
			t.Errorf("P9.1: one key in several regions: %v, %d, want the version %d", y, e, regions+199)
		}
		if l := x.l.Items(); len(l) != regions+1 || l[regions].Key != "k" || l[0].Key != "o0" {
			t.Errorf("P9.3: Items: %s", short(l))
		}
	}
}

// full makes a log of so many regions, with so many Seals behind it; the open one holds a thing of its
// own, and one key of the region that the next Seal takes the place of.
func full(t *testing.T, regions, seals int) *trial {
	d := device(t, 4*regions+2)
	d.Write(0, []byte{7})
	d.Flush()
	x := begin(t, "a new device", d, 1, regions)
	put := func(key string, size, version int) {
		y := sized(key, size, uint64(version))
		x.p.put(x.d.Copy(), x.first, false, y)
		x.l.Put(y)
	}
	for n := range seals {
		put(fmt.Sprint("a", n), 400, n*10+1)
		put(fmt.Sprint("b", n), 300, n*10+2)
		put(fmt.Sprint("c", n), 700, n*10+3)
		x.p.seal(x.d.Copy(), x.first, false)
		x.l.Seal()
	}
	put(fmt.Sprint("b", max(0, seals-regions)), 600, 901)
	put("open", 800, 902)
	return x
}

// picks are all the picks of four pages.
func picks() [][]byte {
	var l [][]byte
	for k := range 81 {
		l = append(l, []byte{byte(k % 3), byte(k / 3 % 3), byte(k / 9 % 3), byte(k / 27)})
	}
	return append(l, nil, []byte{255, 254, 253, 252}, []byte{4, 4, 4, 4}, []byte{5, 5, 5, 5}, []byte{1}, []byte{1, 1, 1}, []byte{2, 2})
}

// The power goes at each step of a Seal, with all the picks.
func TestCut(t *testing.T) {
	for _, regions := range []int{1, 2, 3} {
		for _, sealed := range []int{0, 1, regions + 1} {
			for step := 1; step <= 6; step++ {
				for _, p := range picks() {
					for _, byPut := range []bool{false, true} {
						cut(t, fmt.Sprintf("%d regions, %d sealed, cut at %d, picks %v, by Put %t", regions, sealed, step, p, byPut), full(t, regions, sealed), step, p, byPut)
						if t.Failed() {
							return
						}
					}
				}
			}
		}
	}
}

func cut(t *testing.T, what string, x *trial, step int, picks []byte, byPut bool) {
	t.Helper()
	place := x.p.next()
	old, number := x.p.shelves[place], x.l.Number()
	gone := x.p.held(old.things)
	rest := slices.DeleteFunc(x.l.Items(), func(y api.Item) bool { return slices.Contains(gone, y) })
	ahead := seen(cells(x.d, x.first, 4*len(x.p.shelves))) // what is sealed
	x.d.Arm(step)
	call := x.l.Seal
	if byPut {
		call = func() ([]api.Item, api.Errno) { return x.l.Put(sized("more", 300, 999)) }
	}
	told, e := call()
	want, left, n := api.EOFF, rest, number
	if step > 5 {
		want, n = api.OK, number+1
		if byPut {
			left = append(slices.Clone(rest), sized("more", 300, 999))
		}
	}
	if e != want || !slices.Equal(told, gone) {
		t.Errorf("P9.2: %s: %s, %d, want %s, %d", what, short(told), e, short(gone), want)
	}
	if !slices.Equal(x.l.Items(), left) || x.l.Number() != n || x.l.May("more") != (byPut && step > 5) {
		t.Errorf("P9.2: %s: what stays: %s, %d, want %s, %d", what, short(x.l.Items()), x.l.Number(), short(left), n)
	}
	if step <= 5 && x.d.Losses() != x.losses+1 || x.d.Stat().Writes != 1+4*int(number)+min(step-1, 4) {
		t.Errorf("P9.2: %s: %v", what, x.d.Stat())
	}
	x.d.Crash(picks)
	x.d.On()
	// what was sealed ahead stays, but in the place that was written to: there it is as it was, if each
	// page is; the new one, if each page is new; else none
	pages := make([]byte, 4)
	for k := range min(step-1, 4) {
		if step > 5 {
			pages[k] = 1
		} else if k < len(picks) {
			pages[k] = picks[k] % 3
		}
	}
	switch {
	case bytes.Equal(pages, []byte{1, 1, 1, 1}):
		ahead.shelves[place] = shelf{number + 1, x.p.open}
	case !bytes.Equal(pages, make([]byte, 4)):
		ahead.shelves[place] = shelf{}
	}
	var all []api.Item
	for _, s := range ahead.rising() {
		for _, y := range s.things {
			all = slices.DeleteFunc(all, func(z api.Item) bool { return z.Key == y.x.Key })
			all = append(all, y.x)
		}
	}
	o, f := Open(x.d, x.first, len(x.p.shelves))
	if f != api.OK {
		t.Fatalf("P9.1: %s: Open: %d", what, f)
	}
	if !slices.Equal(o.Items(), all) {
		t.Errorf("P9.4: %s: opened: %s, want %s", what, short(o.Items()), short(all))
	}
	// a number is told by any page that is whole: the old pages' too
	n = 0
	for at := range ahead.shelves {
		n = max(n, ahead.shelves[at].number)
	}
	for _, k := range pages {
		switch k {
		case 0:
			n = max(n, old.number)
		case 1:
			n = max(n, number+1)
		}
	}
	if o.Number() != n {
		t.Errorf("P9.1: %s: Number behind the cut: %d, want %d", what, o.Number(), n)
	}
}

// What one Seal left when it was cut off is never filled up by a later one, though each page of the one
// would fit each page of the other.
func TestNeverFilledUp(t *testing.T) {
	for _, regions := range []int{1, 2} {
		for i, p := range picks()[:81] {
			for j, q := range picks()[:81] {
				if regions == 2 && (i+j)%5 > 0 {
					continue
				}
				d := device(t, 4*regions)
				allowed := []string{""}
				var told string
				for turn, picks := range [][]byte{p, q, p} {
					l, e := Open(d, 0, regions)
					if e != api.OK {
						t.Fatalf("P9.1: Open: %d", e)
					}
					told = versions(l.Items())
					mixed(t, told, allowed)
					letter := string(rune('a' + turn))
					var these []api.Item
					for k := range 4 {
						these = append(these, sized(fmt.Sprint(letter, k), 368, uint64(turn*10+k+1)))
						l.Put(these[k])
					}
					allowed = append(allowed, versions(these))
					d.Arm(5)
					if _, e := l.Seal(); e != api.EOFF {
						t.Fatalf("P9.2: Seal that is cut off: %d", e)
					}
					d.Crash(picks)
					d.On()
				}
				l, _ := Open(d, 0, regions)
				mixed(t, versions(l.Items()), allowed)
				if t.Failed() {
					t.Fatalf("P9.4: picks %v, then %v", p, q)
				}
			}
		}
	}
}

// mixed finds fault with what is told, if it is not made of whole lists.
func mixed(t *testing.T, told string, allowed []string) {
	t.Helper()
	for _, l := range allowed {
		if told = strings.TrimSpace(strings.Replace(told, l, "", 1)); told == "" {
			return
		}
	}
	t.Errorf("P9.4: parts of several regions: %q of %q", told, allowed)
}

// A region that was cut off leaves its number behind; the next one has a greater one.
func TestNumbersAreNotGivenAgain(t *testing.T) {
	for _, regions := range []int{1, 2, 3, 5} {
		x := begin(t, "a new device", device(t, 4*regions), 0, regions)
		r := rand.New(rand.NewSource(int64(regions)))
		given := map[uint64]string{}
		for turn := range 60 {
			n := x.l.Number() + 1
			x.put("numbers", sized(fmt.Sprint("k", turn%7), 368, uint64(turn+1)))
			x.put("numbers", sized(fmt.Sprint("l", turn%5), 368, uint64(turn+1)))
			x.d.Arm(1 + r.Intn(7))
			x.seal("numbers")
			p := []byte{byte(r.Intn(3)), byte(r.Intn(3)), byte(r.Intn(3)), byte(r.Intn(3))}
			x = x.crash("numbers", p...)
			// it may be less than it was: where all pages that bore the greatest are gone
			if x.l.Number() > n {
				t.Errorf("P9.1: Number %d behind Seal of number %d", x.l.Number(), n)
			}
			for at, c := range cells(x.d, 0, 4*regions) {
				if c.kind != "whole" {
					continue
				}
				number := binary.LittleEndian.Uint64([]byte(c.text[8:16]))
				if number > x.l.Number() {
					t.Errorf("P9.1: the page %d bears %d, Number is %d", at, number, x.l.Number())
				}
				given[number] = c.text
			}
		}
		if len(given) < 10 {
			t.Errorf("only %d numbers were given", len(given))
		}
	}
}

// over holds a log that is done: what needs the device is EOFF, what does not is as it was.
func over(t *testing.T, what string, x *trial) {
	t.Helper()
	x.refuses(what)
	ahead := picture(x.d)
	items, number := x.l.Items(), x.l.Number()
	for range 2 {
		if lost, e := x.l.Seal(); len(lost) > 0 || e != api.EOFF {
			t.Errorf("P9.2: %s: Seal: %v, %d", what, lost, e)
		}
		if lost, e := x.l.Put(sized("great", 1050, 9)); len(lost) > 0 || e != api.EOFF {
			t.Errorf("P9.2: %s: Put without room: %v, %d", what, lost, e)
		}
	}
	if !slices.Equal(x.l.Items(), items) || x.l.Number() != number || x.l.May("great") {
		t.Errorf("R3: %s: what is kept is changed: %s", what, short(x.l.Items()))
	}
	x.holds("P9.3: "+what, "great")
	if picture(x.d) != ahead {
		t.Errorf("R3: %s: the device is changed", what)
	}
	// what is answered out of memory goes on: so do Drop, and Put where there is room
	x.drop("a1")
	if lost, e := x.put(what+", with room", sized("small", 37, 9)); len(lost) > 0 || e != api.OK {
		t.Errorf("P9.2: %s: Put with room: %v, %d", what, lost, e)
	}
	x.put(what+", a key that is there", sized("c1", 35, 10))
	x.holds("P9.3: "+what+", behind Drop and Put", "small", "a1", "c1")
	if picture(x.d) != ahead {
		t.Errorf("R3: %s: the device is changed", what)
	}
}

// A log is done with any loss of its device, however it came, and stays so.
func TestDone(t *testing.T) {
	for name, loss := range map[string]func(d *flash.Dev){
		"Crash":                func(d *flash.Dev) { d.Crash(nil) },
		"Crash with picks":     func(d *flash.Dev) { d.Crash([]byte{2, 1}) },
		"Crash and On":         func(d *flash.Dev) { d.Crash(nil); d.On() },
		"On":                   func(d *flash.Dev) { d.On() },
		"On, twice":            func(d *flash.Dev) { d.On(); d.On() },
		"Write that is cut":    func(d *flash.Dev) { d.Arm(1); d.Write(0, nil) },
		"Erase that is cut":    func(d *flash.Dev) { d.Arm(1); d.Erase(0) },
		"Flush that is cut":    func(d *flash.Dev) { d.Arm(1); d.Flush() },
		"Flush cut, and On":    func(d *flash.Dev) { d.Arm(1); d.Flush(); d.On() },
		"On, and about to go":  func(d *flash.Dev) { d.On(); d.Arm(1) },
		"On, with other pages": func(d *flash.Dev) { d.On(); d.Write(1, sheet(0, 99, nil)); d.Erase(2) },
	} {
		x := full(t, 2, 2)
		loss(x.d)
		over(t, "done by "+name, x)
		x.d.On()
		n := x.again(name)
		n.put(name, sized("n", 50, 1))
		n.seal(name)
		if lost, e := x.l.Seal(); len(lost) > 0 || e != api.EOFF {
			t.Errorf("P9.2: done by %s, and another one open: Seal: %v, %d", name, lost, e)
		}
		x.holds("P9.3: done by "+name+", and another one open", "n")
	}
}

// The order of the answers: EARG, then nothing to do, then EOFF, then EWORN.
func TestOrderOfTheAnswers(t *testing.T) {
	x := numberAt(t, math.MaxUint64, 2)
	x.d.Crash(nil)
	if lost, e := x.seal("nothing is open, done"); len(lost) > 0 || e != api.OK {
		t.Errorf("P9.2: Seal of nothing, done: %v, %d", lost, e)
	}
	x.refuses("done, the greatest number")
	x = numberAt(t, math.MaxUint64, 2)
	x.put("there is room", sized("a", 1000, 1))
	if lost, e := x.seal("the greatest number"); len(lost) > 0 || e != api.EWORN {
		t.Errorf("P9.2: Seal at the greatest number: %v, %d", lost, e)
	}
	x.d.On()
	if lost, e := x.seal("done, the greatest number"); len(lost) > 0 || e != api.EOFF {
		t.Errorf("P9.2: Seal at the greatest number, done: %v, %d", lost, e)
	}
	if lost, e := x.put("done, the greatest number", sized("b", 1000, 1)); len(lost) > 0 || e != api.EOFF {
		t.Errorf("P9.2: Put at the greatest number, done: %v, %d", lost, e)
	}
	x.refuses("done, the greatest number, no room")
	x.holds("R3: done, the greatest number")
}

// Losses ahead of Open are not the log's; steps that are EARG are none.
func TestOpenedBehindLosses(t *testing.T) {
	d := device(t, 8)
	for range 3 {
		d.Crash(nil)
		d.On()
	}
	x := begin(t, "behind losses", d, 0, 2)
	x.put("behind losses", sized("a", 60, 1))
	d.Arm(6)
	if d.Write(8, nil) != api.EARG {
		t.Fatalf("P3.1: Write past the end")
	}
	if _, e := x.seal("five steps ahead"); e != api.OK {
		t.Errorf("P9.2: Seal takes more than five steps: %d", e)
	}
	x.holds("P9.2: behind losses")
}

// Calls that read and write nothing take no step of the power.
func TestCallsThatWriteNothing(t *testing.T) {
	x := full(t, 2, 2)
	x.d.Arm(1)
	ahead := picture(x.d)
	x.put("the next step is the last", sized("a", 72, 1))
	x.drop("a0")
	x.drop("open")
	x.holds("P9.3: the next step is the last", "a0", "open")
	if picture(x.d) != ahead || !x.d.Power() || x.d.Flush() != api.EOFF {
		t.Errorf("P9.3: a step was taken")
	}
}

// A log tells what it was told: pages that are written behind its back are for the next Open.
func TestWrittenBehindItsBack(t *testing.T) {
	x := full(t, 2, 2)
	for at := range 8 {
		x.d.Erase(1 + at)
	}
	lays(x.d, 1, 70, sized("behind", 60, 1))
	x.holds("P9.3: behind its back", "behind")
	n := x.again("behind its back")
	if !slices.Equal(n.l.Items(), []api.Item{sized("behind", 60, 1)}) || n.l.Number() != 70 {
		t.Errorf("P9.1: what was written by hand: %s, %d", short(n.l.Items()), n.l.Number())
	}
	if lost, e := x.seal("behind its back"); len(lost) != 2 || e != api.OK || x.l.Number() != 3 {
		t.Errorf("P9.2: Seal: %s, %d, %d", short(lost), e, x.l.Number())
	}
}

// spoil changes a list in all its room, and behind.
func spoil(l []api.Item) {
	l = l[:cap(l)]
	for i := range l {
		l[i] = api.Item{Key: "spoilt", Value: "x", Version: 1}
	}
	_ = append(l[:0], api.Item{Key: "more", Version: 2}, api.Item{Key: "yet more", Version: 3})
}

func TestMemory(t *testing.T) {
	calls := map[string]func(x *trial) []api.Item{
		"Items": func(x *trial) []api.Item { return x.l.Items() },
		"Seal":  func(x *trial) []api.Item { l, _ := x.seal("memory"); return l },
		"Put":   func(x *trial) []api.Item { l, _ := x.put("memory", sized("p", 1050, 70)); return l },
		"Seal that is cut": func(x *trial) []api.Item {
			x.d.Arm(5)
			l, _ := x.seal("memory")
			return l
		},
		"Put that is cut": func(x *trial) []api.Item {
			x.d.Arm(1)
			l, _ := x.put("memory", sized("p", 1050, 70))
			return l
		},
	}
	for name, call := range calls {
		for _, opened := range []bool{false, true} {
			x := full(t, 2, 2)
			if opened {
				x = x.again("memory")
				x.put("memory", sized("o", 500, 60))
			}
			one := x.l.Items()
			two := call(x)
			three := x.l.Items()
			if len(one) == 0 || len(two) == 0 || len(three) == 0 {
				t.Errorf("R4: %s: nothing is answered", name)
			}
			ahead := [][]api.Item{slices.Clone(two), slices.Clone(three)}
			spoil(one)
			if !slices.Equal(two, ahead[0]) || !slices.Equal(three, ahead[1]) {
				t.Errorf("R4: an answer of Items that is changed changes others")
			}
			spoil(two)
			if !slices.Equal(three, ahead[1]) {
				t.Errorf("R4: an answer of %s that is changed changes others", name)
			}
			x.holds("R4: an answer of " + name + " that is changed")
			spoil(three)
			x.holds("R4: an answer of " + name + " that is changed")
			y, e := x.l.Get("open")
			if y.Value, y.Key = "another", "another"; e == api.OK {
				x.holds("R4: an answer of Get that is changed", "another")
			}
			if x.done() {
				continue
			}
			four := x.l.Items()
			kept := slices.Clone(four)
			for n := range 5 {
				x.put("memory", sized(fmt.Sprint("m", n), 900, 80))
			}
			if !slices.Equal(four, kept) {
				t.Errorf("R4: Put changes an answer of Items")
			}
			x.crash("memory")
		}
	}
}

// Logs beside each other on one device, and on a copy of it, are their own.
func TestBesideEachOther(t *testing.T) {
	d := device(t, 20)
	a := begin(t, "a new device", d, 0, 2)
	b := begin(t, "a new device", d, 8, 3)
	c := d.Copy()
	for i := range 30 {
		a.put("beside each other", sized(fmt.Sprint("k", i), 300, uint64(i+1)))
		b.put("beside each other", sized(fmt.Sprint("k", i), 500, uint64(i+100)))
		if i%4 == 0 {
			b.drop(fmt.Sprint("k", i/2))
		}
		a.holds("R5: the one")
		b.holds("R5: the other")
	}
	c.Crash(nil)
	a.put("a copy has crashed", sized("z", 1050, 200))
	a.seal("a copy has crashed")
	c.On()
	begin(t, "a copy", c, 0, 5)
	a.holds("R5: the one")
	b.holds("R5: the other")
	a.again("the one")
	b.again("the other")
}

// Round and round: what is told is what was put last, and no more regions than there are.
func TestRoundAndRound(t *testing.T) {
	for _, regions := range []int{1, 2, 3, 8, 64} {
		d := device(t, 4*regions+1)
		x := begin(t, "a new device", d, 1, regions)
		r := rand.New(rand.NewSource(int64(regions)))
		now := map[string]api.Item{}
		for turn := range 5*regions + 80 {
			y := sized(fmt.Sprint("k", r.Intn(5*regions)), 33+6+r.Intn(700), uint64(turn+1))
			lost, e := x.put("round and round", y)
			if e != api.OK {
				t.Fatalf("P9.2: Put: %d", e)
			}
			for _, z := range lost {
				if now[z.Key] != z {
					t.Errorf("P9.2: lost is what was not there: %v", z)
				}
				delete(now, z.Key)
			}
			now[y.Key] = y
			if turn%9 == 0 {
				key := fmt.Sprint("k", r.Intn(5*regions))
				x.drop(key)
				delete(now, key)
			}
			got := map[string]api.Item{}
			for _, z := range x.l.Items() {
				got[z.Key] = z
			}
			if !maps.Equal(got, now) {
				t.Fatalf("P9.3: turn %d of %d regions: %d are told, want %d", turn, regions, len(got), len(now))
			}
			if turn%25 == 0 {
				x.holds("P9.3: round and round")
			}
		}
		x.seal("round and round")
		if n := x.l.Number(); n <= uint64(regions) {
			t.Errorf("only %d were sealed", n)
		}
		x.crash("round and round")
	}
}

// paper is a device by chapter 3's words, on plain lists.
type paper struct {
	now, last []cell
	waits     []bool
	armed     int
	off       bool
	losses    int
}

func (p *paper) gone() bool {
	if !p.off && p.armed > 0 {
		if p.armed--; p.armed == 0 {
			p.off = true
			p.losses++
		}
	}
	return p.off
}

func (p *paper) Write(page int, b []byte) api.Errno { return p.set(page, wholeCell(b)) }

func (p *paper) set(page int, c cell) api.Errno {
	if p.gone() {
		return api.EOFF
	}
	if !p.waits[page] {
		p.waits[page], p.last[page] = true, p.now[page]
	}
	p.now[page] = c
	return api.OK
}

func (p *paper) Flush() api.Errno {
	if p.gone() {
		return api.EOFF
	}
	clear(p.waits)
	return api.OK
}

func (p *paper) settle(picks []byte) {
	p.losses++
	for page, waits := range p.waits {
		if !waits {
			continue
		}
		pick := byte(0)
		if len(picks) > 0 {
			pick, picks = picks[0]%3, picks[1:]
		}
		switch pick {
		case 0:
			p.now[page] = p.last[page]
		case 2:
			p.now[page] = cell{kind: "torn"}
		}
	}
	clear(p.waits)
}

// runner goes on with one log, and keeps what it should hold, and what its device should be, by the
// words of chapters 3 and 9 alone.
type runner struct {
	t      *testing.T
	r      *rand.Rand
	d      *flash.Dev
	paper  *paper
	l      *Log
	p      *plain
	first  int
	losses int
	sealed map[string]bool // lists of regions that were sealed, or were to be: no others are ever told
}

func (x *runner) done() bool { return x.paper.losses != x.losses }

func (x *runner) item() api.Item {
	key := fmt.Sprint("key", x.r.Intn(30))
	y := sized(key, 32+len(key)+x.r.Intn(700), x.r.Uint64())
	y.Flags, y.Exp = x.r.Uint32(), int64(x.r.Uint64())
	switch x.r.Intn(25) {
	case 0:
		y.Version = 0
	case 1:
		y.Value = strings.Repeat("v", 1023+x.r.Intn(4))
	case 2:
		y.Key = ""
	case 3:
		y.Value = ""
	}
	return y
}

// noted keeps the open region's list: it may be sealed by the next call.
func (x *runner) noted() { x.sealed[short(itemsOf(x.p.open))] = true }

func (x *runner) put() {
	y := x.item()
	x.noted()
	want, f := x.p.put(x.paper, x.first, x.done(), y)
	if lost, e := x.l.Put(y); e != f || !slices.Equal(lost, want) {
		x.t.Errorf("P9.2: Put(%s): %s, %d, want %s, %d", short([]api.Item{y}), short(lost), e, short(want), f)
	}
}

func (x *runner) seal() {
	x.noted()
	want, f := x.p.seal(x.paper, x.first, x.done())
	if lost, e := x.l.Seal(); e != f || !slices.Equal(lost, want) {
		x.t.Errorf("P9.2: Seal: %s, %d, want %s, %d", short(lost), e, short(want), f)
	}
}

func (x *runner) open() {
	regions := len(x.p.shelves)
	l, e := Open(x.d, x.first, regions)
	if x.paper.off {
		if l != nil || e != api.EOFF {
			x.t.Errorf("P9.1: Open without power: %v, %d", l, e)
		}
		return
	}
	if l == nil || e != api.OK {
		x.t.Fatalf("P9.1: Open: %v, %d", l, e)
	}
	x.l, x.p, x.losses = l, seen(x.paper.now[x.first:x.first+4*regions]), x.paper.losses
	for _, s := range x.p.rising() {
		if list := short(itemsOf(s.things)); !x.sealed[list] {
			x.t.Errorf("P9.4: a region of which no Seal was asked: %s", list)
		}
	}
}

// spoil writes to a page behind the log's back: what can't be a part of a region that counts.
func (x *runner) spoil() {
	at := x.first + x.r.Intn(4*len(x.p.shelves))
	switch x.r.Intn(4) {
	case 0:
		x.d.Erase(at)
		x.paper.set(at, cell{kind: "blank"})
	case 1:
		x.d.Write(at, []byte{82, 71, 9})
		x.paper.Write(at, []byte{82, 71, 9})
	case 2:
		b := sheet(byte(x.r.Intn(4)), x.p.number+uint64(x.r.Intn(3)), []byte{3})
		x.d.Write(at, b)
		x.paper.Write(at, b)
	}
}

func (x *runner) on() {
	x.d.On()
	x.paper.settle(nil)
	x.paper.off, x.paper.armed = false, 0
}

func (x *runner) step() {
	switch x.r.Intn(30) {
	case 0:
		x.paper.armed = x.r.Intn(9)
		x.d.Arm(x.paper.armed)
	case 1:
		picks := make([]byte, x.r.Intn(8))
		x.r.Read(picks)
		x.d.Crash(picks)
		x.paper.settle(picks)
		x.paper.off = true
	case 2:
		x.on()
	case 3, 4, 5:
		if x.paper.off {
			x.on()
		}
		x.open()
	case 6:
		x.open()
	case 7:
		x.d.Flush()
		x.paper.Flush()
	case 8:
		x.spoil()
	case 9, 10, 11, 12:
		key := fmt.Sprint("key", x.r.Intn(30))
		x.p.drop(key)
		x.l.Drop(key)
	case 13, 14:
		x.seal()
	default:
		x.put()
	}
}

// holds holds the log, done or not, against the lists, and the device against the paper.
func (x *runner) holds(what string) {
	if l := x.l.Items(); !slices.Equal(l, x.p.items()) {
		x.t.Errorf("P9.3: %s: Items: %s, want %s", what, short(l), short(x.p.items()))
	}
	if n := x.l.Number(); n != x.p.number {
		x.t.Errorf("P9.1: %s: Number: %d, want %d", what, n, x.p.number)
	}
	for i := range 32 {
		key := fmt.Sprint("key", i)
		want, f := x.p.get(key)
		if y, e := x.l.Get(key); y != want || e != f || x.l.May(key) != (f == api.OK) {
			x.t.Errorf("P9.3: %s: Get(%q): %v, %d, want %v, %d", what, key, y, e, want, f)
		}
	}
	if x.d.Power() == x.paper.off || x.d.Losses() != x.paper.losses {
		x.t.Errorf("%s: power %t, losses %d, want %t, %d", what, x.d.Power(), x.d.Losses(), !x.paper.off, x.paper.losses)
	}
	if x.d.Power() && !slices.Equal(cells(x.d, 0, x.d.Pages()), x.paper.now) {
		x.t.Errorf("P9.2: %s: the pages are not as they should be", what)
	}
}

func TestALongRun(t *testing.T) {
	for seed := range int64(32) {
		regions := []int{1, 2, 3, 5}[seed%4]
		n := int(seed%5) + 4*regions + 1
		blank := slices.Repeat([]cell{{kind: "blank"}}, n)
		x := &runner{t: t, r: rand.New(rand.NewSource(seed)), d: device(t, n), p: none(regions), first: int(seed % 5), sealed: map[string]bool{}}
		x.paper = &paper{now: blank, last: make([]cell, n), waits: make([]bool, n)}
		x.open()
		for k := range 600 {
			x.step()
			x.holds(fmt.Sprintf("run %d, step %d", seed, k))
			if t.Failed() {
				return
			}
		}
	}
}
