package bucket

import (
	"bytes"
	"encoding/binary"
	"fmt"
	"hash/crc32"
	"hash/fnv"
	"math"
	"math/big"
	"math/rand"
	"slices"
	"strings"
	"testing"

	"cellaret/api"
	"cellaret/flash"
)

// laid lays records by chapter 4's words, and noughts behind them up to a page's end.
func laid(l ...api.Item) []byte {
	var b []byte
	table := crc32.MakeTable(crc32.Castagnoli)
	for _, x := range l {
		h := []byte{byte(len(x.Key)), byte(len(x.Value)), byte(len(x.Value) >> 8), 82}
		h = binary.LittleEndian.AppendUint32(h, x.Flags)
		h = binary.LittleEndian.AppendUint64(h, uint64(x.Exp))
		h = binary.LittleEndian.AppendUint64(h, x.Version)
		h = binary.LittleEndian.AppendUint32(h, crc32.Checksum(h, table))
		h = binary.LittleEndian.AppendUint32(h, crc32.Checksum([]byte(x.Key+x.Value), table))
		b = append(append(append(b, h...), x.Key...), x.Value...)
	}
	return append(b, make([]byte, api.PageSize-len(b))...)
}

// place is a key's bucket, by chapters 1 and 8.
func place(key string, pages int) int {
	h := fnv.New64a()
	h.Write([]byte(key))
	return int(h.Sum64() % uint64(pages))
}

// marks are the bits of a key in a filter of 256 bits and 3 turns, by chapters 1 and 7.
func marks(key string) [3]int {
	h := fnv.New64a()
	h.Write([]byte(key))
	second := uint64(1099511628211)
	for _, x := range []byte("\x00" + key) {
		second = (second ^ uint64(x)) * 1099511628211
	}
	var l [3]int
	for k := range l {
		l[k] = int((h.Sum64() + uint64(k)*(second|1)) % 256)
	}
	return l
}

// sieve is a filter by chapter 7's words.
type sieve [256]bool

func (f *sieve) add(key string) {
	for _, i := range marks(key) {
		f[i] = true
	}
}

func (f *sieve) may(key string) bool {
	l := marks(key)
	return f[l[0]] && f[l[1]] && f[l[2]]
}

// plain is a store by the chapter's words, on plain lists: each bucket's, and each one's filter.
type plain struct {
	lists   [][]api.Item
	filters []sieve
}

// kept makes one of lists, as if it were opened on them.
func kept(lists ...[]api.Item) *plain {
	p := &plain{filters: make([]sieve, len(lists))}
	for i, l := range lists {
		p.lists = append(p.lists, slices.Clone(l))
		for _, x := range l {
			p.filters[i].add(x.Key)
		}
	}
	return p
}

func none(pages int) *plain { return kept(make([][]api.Item, pages)...) }

func (p *plain) copy() *plain {
	c := &plain{filters: slices.Clone(p.filters)}
	for _, l := range p.lists {
		c.lists = append(c.lists, slices.Clone(l))
	}
	return c
}

func (p *plain) place(key string) int { return place(key, len(p.lists)) }

func (p *plain) may(key string) bool { return p.filters[p.place(key)].may(key) }

func (p *plain) get(key string) (api.Item, api.Errno) {
	if p.may(key) {
		for _, x := range p.lists[p.place(key)] {
			if x.Key == key {
				return x, api.OK
			}
		}
	}
	return api.Item{}, api.ENONE
}

// put keeps an item that may be, and tells what is left out.
func (p *plain) put(x api.Item) []api.Item {
	i := p.place(x.Key)
	p.drop(x.Key)
	p.lists[i] = append(p.lists[i], x)
	var out []api.Item
	for bytesOf(p.lists[i]) > 384 {
		out = append(out, p.lists[i][0])
		p.lists[i] = slices.Clone(p.lists[i][1:])
	}
	p.filters[i].add(x.Key)
	return out
}

func bytesOf(l []api.Item) int {
	n := 0
	for _, x := range l {
		n += 32 + len(x.Key) + len(x.Value)
	}
	return n
}

func (p *plain) drop(key string) api.Errno {
	i := p.place(key)
	var rest []api.Item
	for _, x := range p.lists[i] {
		if x.Key != key {
			rest = append(rest, x)
		}
	}
	if len(rest) == len(p.lists[i]) {
		return api.ENONE
	}
	p.lists[i] = rest
	return api.OK
}

func (p *plain) items() []api.Item { return slices.Concat(p.lists...) }

func device(t *testing.T, pages int) *flash.Dev {
	t.Helper()
	d, e := flash.New(pages)
	if e != api.OK {
		t.Fatalf("P3.1: New(%d): %d", pages, e)
	}
	return d
}

// picture tells all that calls could tell of a device.
func picture(d *flash.Dev) string {
	c := d.Copy()
	var s bytes.Buffer
	fmt.Fprintln(&s, c.Pages(), c.Power(), c.Losses(), c.Waiting(), c.Stat())
	armed := 0
	for a := c.Copy(); a.Power() && armed < 9; armed++ {
		a.Flush()
	}
	fmt.Fprintln(&s, "armed", armed)
	for range 2 {
		for at := range c.Pages() {
			b, e := c.Read(at)
			s.Write(b)
			fmt.Fprintln(&s, at, int(e))
		}
		c.On()
	}
	return s.String()
}

// same holds a device against what it should be.
func same(t *testing.T, what string, d, want *flash.Dev) {
	t.Helper()
	if picture(d) != picture(want) {
		t.Errorf("%s: the device is not as it should be: Stat %v, want %v; %v wait, want %v; losses %d, want %d", what, d.Stat(), want.Stat(), d.Waiting(), want.Waiting(), d.Losses(), want.Losses())
	}
}

// open opens a store, and holds the answer, and what was read for it.
func open(t *testing.T, what string, d *flash.Dev, first, pages int) *Store {
	t.Helper()
	want := d.Copy()
	for at := range pages {
		want.Read(first + at)
	}
	s, e := Open(d, first, pages)
	if e != api.OK || s == nil {
		t.Fatalf("P8.1: %s: Open(%d, %d) of %d pages: %v, %d", what, first, pages, d.Pages(), s, e)
	}
	same(t, "P8.1: "+what+": Open", d, want)
	return s
}

// strange are keys that no test puts.
func strange() []string {
	l := []string{"", "never", "\x00", "\xff\xfe", "日本語", strings.Repeat("n", 88), strings.Repeat("n", 250), strings.Repeat("n", 251), strings.Repeat("n", 4000)}
	for i := range 40 {
		l = append(l, fmt.Sprint("none ", i))
	}
	return l
}

// holds holds a store against what it should hold: Items, and May and Get of its keys and of others.
// The device is read for it, and not changed.
func holds(t *testing.T, what string, s *Store, p *plain, keys ...string) {
	t.Helper()
	if l, e := s.Items(); e != api.OK || !slices.Equal(l, p.items()) {
		t.Errorf("%s: Items: %v, %d, want %v", what, l, e, p.items())
	}
	for _, x := range p.items() {
		keys = append(keys, x.Key)
	}
	for _, key := range append(keys, strange()...) {
		if got, want := s.May(key), p.may(key); got != want {
			t.Errorf("%s: May(%q): %t, want %t", what, key, got, want)
		}
		x, e := s.Get(key)
		if want, f := p.get(key); x != want || e != f {
			t.Errorf("%s: Get(%q): %v, %d, want %v, %d", what, key, x, e, want, f)
		}
	}
}

// put puts an item that may be, and holds what is left out, and the device: one page is read, and
// written, and nothing is flushed.
func put(t *testing.T, what string, d *flash.Dev, first int, s *Store, p *plain, x api.Item) {
	t.Helper()
	i, want := p.place(x.Key), d.Copy()
	out := p.put(x)
	want.Read(first + i)
	want.Write(first+i, laid(p.lists[i]...))
	if l, e := s.Put(x); e != api.OK || !slices.Equal(l, out) {
		t.Errorf("P8.1: %s: Put(%v): %v, %d, want %v", what, x, l, e, out)
	}
	same(t, "P8.1: "+what+": Put", d, want)
}

// drop drops a key, and holds the answer and the device.
func drop(t *testing.T, what string, d *flash.Dev, first int, s *Store, p *plain, key string) {
	t.Helper()
	i, want := p.place(key), d.Copy()
	f := p.drop(key)
	want.Read(first + i)
	if f == api.OK {
		want.Write(first+i, laid(p.lists[i]...))
	}
	if e := s.Drop(key); e != f {
		t.Errorf("P8.2: %s: Drop(%q): %d, want %d", what, key, e, f)
	}
	same(t, "P8.2: "+what+": Drop", d, want)
}

// sized is an item whose record has so many bytes.
func sized(key string, size int, version uint64) api.Item {
	return api.Item{Key: key, Value: strings.Repeat("v", size-32-len(key)), Flags: uint32(version) << 7, Exp: -int64(version), Version: version}
}

// keysOf are n keys of a bucket.
func keysOf(n, bucket, pages int) []string {
	var l []string
	for i := 0; len(l) < n; i++ {
		if key := fmt.Sprint("k", i); place(key, pages) == bucket {
			l = append(l, key)
		}
	}
	return l
}

func TestExamples(t *testing.T) {
	d := device(t, 1)
	s, e := Open(d, 0, 1)
	if e != api.OK {
		t.Fatalf("P8.1: example: Open: %d", e)
	}
	a, b, c := api.Item{Key: "a", Version: 1}, api.Item{Key: "b", Version: 2}, api.Item{Key: "a", Value: "'", Version: 3}
	for _, x := range []api.Item{a, b, c} {
		if l, e := s.Put(x); len(l) > 0 || e != api.OK {
			t.Errorf("P8.1: example: Put: %v, %d", l, e)
		}
	}
	if l, e := s.Items(); e != api.OK || !slices.Equal(l, []api.Item{b, c}) {
		t.Errorf("P8.2: example: Items: %v, %d", l, e)
	}
}

// fits tells whether Open may be, in numbers that never run over.
func fits(n, first, pages int) bool {
	end := new(big.Int).Add(big.NewInt(int64(first)), big.NewInt(int64(pages)))
	return first >= 0 && pages >= 1 && pages <= 256 && end.Cmp(big.NewInt(int64(n))) <= 0
}

func refused(t *testing.T, d *flash.Dev, first, pages int, want api.Errno) {
	t.Helper()
	s, e := Open(d, first, pages)
	if e != want {
		t.Errorf("P8.1: Open(%d, %d) of %d pages, power %t: %d, want %d", first, pages, d.Pages(), d.Power(), e, want)
	}
	if s != nil {
		t.Errorf("R2: Open(%d, %d): a store beside the error %d", first, pages, e)
	}
}

func TestOpenAtTheEdges(t *testing.T) {
	for _, n := range []int{1, 2, 5, 255, 256, 257, 300, api.MaxPages} {
		d := device(t, n)
		d.Write(0, laid(sized("k", 40, 1)))
		d.Flush()
		d.Write(n-1, laid(sized("l", 40, 1)))
		off, armed := d.Copy(), d.Copy()
		off.Crash(nil)
		armed.Arm(1)
		ahead := []string{picture(d), picture(off), picture(armed)}
		edges := []int{math.MinInt, math.MinInt + 1, -n - 1, -n, -256, -2, -1, 0, 1, 2, n - 257, n - 256, n - 255, n - 2, n - 1, n, n + 1, 2 * n, 255, 256, 257, 512, 1 << 32, 1 << 61, 1 << 62, math.MaxInt - n, math.MaxInt - 256, math.MaxInt - 1, math.MaxInt}
		opens := 0
		for _, first := range edges {
			for _, pages := range edges {
				if fits(n, first, pages) {
					open(t, "a new device", d.Copy(), first, pages)
					refused(t, off, first, pages, api.EOFF)
					opens++
					continue
				}
				for _, x := range []*flash.Dev{d, off, armed} {
					refused(t, x, first, pages, api.EARG)
				}
			}
		}
		if opens == 0 || ahead[0] != picture(d) || ahead[1] != picture(off) || ahead[2] != picture(armed) {
			t.Errorf("R3: Open that is refused changes the device of %d pages (%d are not)", n, opens)
		}
	}
}

// Open needs no step of the power: it neither writes nor flushes.
func TestOpenOfAnArmedDevice(t *testing.T) {
	d := device(t, 3)
	x := sized("k", 50, 1)
	d.Write(1, laid(x))
	d.Arm(1)
	s := open(t, "an armed device", d, 1, 1)
	holds(t, "P8.1: an armed device", s, kept([]api.Item{x}))
}

func TestWhereEachByteLies(t *testing.T) {
	want := make([]byte, api.PageSize)
	copy(want, []byte{
		1, 2, 0, 82,
		0x11, 0x12, 0x13, 0x14,
		0x21, 0x22, 0x23, 0x24, 0x25, 0x26, 0x27, 0x28,
		0x31, 0x32, 0x33, 0x34, 0x35, 0x36, 0x37, 0x38,
	})
	table := crc32.MakeTable(crc32.Castagnoli)
	binary.LittleEndian.PutUint32(want[24:], crc32.Checksum(want[:24], table))
	copy(want[32:], "kvw")
	binary.LittleEndian.PutUint32(want[28:], crc32.Checksum(want[32:35], table))
	x := api.Item{Key: "k", Value: "vw", Flags: 0x14131211, Exp: 0x2827262524232221, Version: 0x3837363534333231}
	d := device(t, 2)
	s := open(t, "a new device", d, 1, 1)
	if l, e := s.Put(x); len(l) > 0 || e != api.OK {
		t.Errorf("P8.1: Put: %v, %d", l, e)
	}
	if b, e := d.Read(1); e != api.OK || !bytes.Equal(b, want) {
		t.Errorf("P8.1: the page: %v, %d, want %v", b, e, want)
	}
	if _, e := d.Read(0); e != api.ENONE {
		t.Errorf("P8.1: the page ahead: %d", e)
	}
}

// Each key has one page, whatever bytes it has, wherever the store begins and however many pages it has.
func TestWhichPage(t *testing.T) {
	keys := []string{"a", "b", "key", "a b\r\n", "\x00", "\x00\x00", "\xff", "日本語", "\xc3", strings.Repeat("k", 88)}
	for i := range 30 {
		keys = append(keys, fmt.Sprint("k", i*i))
	}
	for _, pages := range []int{1, 2, 3, 7, 8, 64, 100, 255, 256} {
		for _, first := range []int{0, 1, 5} {
			d := device(t, first+pages+2)
			s, p := open(t, "a new device", d, first, pages), none(pages)
			for i, key := range keys {
				d.Flush()
				put(t, "which page", d, first, s, p, api.Item{Key: key, Version: uint64(i + 1)})
				if got, want := fmt.Sprint(d.Waiting()), fmt.Sprint([]int{first + place(key, pages)}); got != want {
					t.Errorf("P8.1: Put(%q) of %d pages from %d on writes %s, want %s", key, pages, first, got, want)
				}
			}
			holds(t, "P8.2: which page", s, p, keys...)
			holds(t, "P8.1: which page, opened anew", open(t, "which page", d, first, pages), kept(p.lists...), keys...)
		}
	}
}

// unchanged holds a call that is refused, and the device and the store behind it.
func unchanged(t *testing.T, what string, d *flash.Dev, s *Store, p *plain, want api.Errno, x api.Item) {
	t.Helper()
	ahead := d.Copy()
	if l, e := s.Put(x); len(l) > 0 || e != want {
		t.Errorf("P8.1: %s: Put of a key of %d and a value of %d bytes, version %d: %v, %d, want %d", what, len(x.Key), len(x.Value), x.Version, l, e, want)
	}
	same(t, "R3: "+what+": Put that is refused", d, ahead)
	for _, key := range append(strange(), x.Key) {
		if s.May(key) != p.may(key) {
			t.Errorf("R3: %s: May(%q) is another behind a Put that is refused", what, key)
		}
	}
}

// wrong are items that Put refuses.
func wrong() []api.Item {
	return []api.Item{
		{},
		{Key: "k"},
		{Key: "k", Value: "v"},
		{Value: "v", Version: 1},
		{Version: 1},
		{Key: strings.Repeat("k", 89), Version: 1},
		{Key: strings.Repeat("k", 250), Version: 1},
		{Key: strings.Repeat("k", 251), Version: 1},
		{Key: strings.Repeat("k", 100000), Version: 1},
		{Key: strings.Repeat("k", 288), Version: 1},
		{Key: "k", Value: strings.Repeat("v", 88), Version: 1},
		{Key: "k", Value: strings.Repeat("v", 1024), Version: 1},
		{Key: "k", Value: strings.Repeat("v", 1025), Version: 1},
		{Key: "k", Value: strings.Repeat("v", 65536), Version: 1},
		sized("k", 121, 1), sized("k", 122, 1), sized("k", 384, 1), sized("k", 385, 1),
		sized(strings.Repeat("l", 88), 121, math.MaxUint64),
	}
}

func TestPutRefused(t *testing.T) {
	for _, x := range wrong() {
		d := device(t, 3)
		s, p := open(t, "a new device", d, 1, 2), none(2)
		unchanged(t, "a new device", d, s, p, api.EARG, x)
		for i, key := range []string{"k", "l", "m", "n", "o"} {
			put(t, "refused", d, 1, s, p, sized(key, 100, uint64(i+1)))
		}
		d.Arm(1)
		unchanged(t, "an armed device", d, s, p, api.EARG, x)
		holds(t, "R3: behind a Put that is refused", s, p, x.Key)
		d.Crash(nil)
		unchanged(t, "the power is off", d, s, p, api.EARG, x)
		d.On()
		unchanged(t, "the store is done", d, s, p, api.EARG, x)
	}
}

// Each size from the least to MaxSmall, with each length of the key.
func TestPutOfEachSize(t *testing.T) {
	for key := 1; key <= 88; key++ {
		for _, size := range []int{32 + key, (152 + key) / 2, 119, 120} {
			if size < 32+key {
				continue
			}
			d := device(t, 1)
			s, p := open(t, "a new device", d, 0, 1), none(1)
			x := sized(strings.Repeat("x", key), size, math.MaxUint64)
			put(t, "each size", d, 0, s, p, x)
			holds(t, fmt.Sprintf("P8.2: a key of %d bytes, a record of %d", key, size), s, p)
		}
	}
}

// A list is as many sizes one behind the other: which go when the next comes is reckoned from them.
func TestLeftOut(t *testing.T) {
	for i, c := range []struct {
		sizes []int // of the keys a, b, c ..
		next  int
		out   string
	}{
		{nil, 120, ""},
		{nil, 33, ""},
		{[]int{120, 120}, 120, ""},
		{[]int{120, 120, 120}, 33, "a"},
		{[]int{120, 120, 120}, 120, "a"},
		{[]int{96, 96, 96}, 96, ""},
		{[]int{96, 96, 96}, 97, "a"},
		{[]int{96, 96, 97}, 96, "a"},
		{[]int{96, 96, 96, 96}, 33, "a"},
		{[]int{96, 96, 96, 96}, 96, "a"},
		{[]int{96, 96, 96, 96}, 97, "ab"},
		{[]int{100, 100, 100}, 84, ""},
		{[]int{100, 100, 100}, 85, "a"},
		{[]int{33, 117, 117, 117}, 33, "a"},
		{[]int{33, 117, 117, 117}, 34, "ab"},
		{[]int{40, 40, 40, 40, 40, 40, 40, 40, 40}, 120, "abc"},
		{[]int{40, 40, 40, 40, 40, 40, 40, 40, 40}, 64, "a"},
		{[]int{40, 40, 40, 40, 40, 40, 40, 40, 40}, 65, "ab"},
		{[]int{40, 40, 40, 40, 40, 40, 40, 40, 40}, 104, "ab"},
		{[]int{40, 40, 40, 40, 40, 40, 40, 40, 40}, 105, "abc"},
		{[]int{33, 33, 33, 33, 33, 33, 33, 33, 33, 33, 33}, 33, "a"},
		{[]int{33, 33, 33, 33, 33, 33, 33, 33, 33, 33, 33}, 54, "a"},
		{[]int{33, 33, 33, 33, 33, 33, 33, 33, 33, 33, 33}, 55, "ab"},
		{[]int{33, 33, 33, 33, 33, 33, 33, 33, 33, 33, 33}, 120, "abc"},
		{[]int{120, 33, 33, 33, 33, 33, 33, 33}, 120, "a"},
	} {
		d := device(t, 1)
		s, p := open(t, "a new device", d, 0, 1), none(1)
		for k, size := range c.sizes {
			put(t, fmt.Sprintf("number %d", i), d, 0, s, p, sized(string(rune('a'+k)), size, uint64(k+1)))
		}
		first := p.items()
		if len(first) != len(c.sizes) {
			t.Fatalf("P8.1: number %d: %d of %d are there ahead of the last Put", i, len(first), len(c.sizes))
		}
		x := sized("z", c.next, 99)
		l, e := s.Put(x)
		if e != api.OK || !slices.Equal(l, first[:len(c.out)]) {
			t.Errorf("P8.1: number %d: left out: %v, %d, want %q", i, l, e, c.out)
		}
		left, e := s.Items()
		if e != api.OK || !slices.Equal(left, append(first[len(c.out):], x)) {
			t.Errorf("P8.1: number %d: left: %v, %d, want all but %q", i, left, e, c.out)
		}
		for _, y := range l {
			if z, e := s.Get(y.Key); z != (api.Item{}) || e != api.ENONE || !s.May(y.Key) {
				t.Errorf("P8.2: number %d: Get of %s, which was left out: %v, %d, May %t", i, y.Key, z, e, s.May(y.Key))
			}
		}
	}
}

// A key that is there goes to the end, whichever it was; what it had is not among those left out.
func TestPutOfAKeyThatIsThere(t *testing.T) {
	for _, size := range []int{60, 96} {
		for _, next := range []int{33, size - 1, size, size + 1, size + 20, 120} {
			for k := range 4 {
				d := device(t, 1)
				s, p := open(t, "a new device", d, 0, 1), none(1)
				for i, key := range []string{"a", "b", "c", "d"} {
					put(t, "there already", d, 0, s, p, sized(key, size, uint64(i+1)))
				}
				x := sized(string(rune('a'+k)), next, 9)
				put(t, "there already", d, 0, s, p, x)
				if l, _ := s.Items(); len(l) == 0 || l[len(l)-1] != x {
					t.Errorf("P8.1: Put of %s, %d bytes: not at the end: %v", x.Key, next, l)
				}
				holds(t, "P8.1: there already", s, p, "a", "b", "c", "d")
				put(t, "there already", d, 0, s, p, x)
				holds(t, "P8.1: the same again", s, p, "a", "b", "c", "d")
			}
		}
	}
}

// A version is not asked: an elder one takes a younger one's place.
func TestVersionsAreNotAsked(t *testing.T) {
	d := device(t, 1)
	s, p := open(t, "a new device", d, 0, 1), none(1)
	for _, version := range []uint64{math.MaxUint64, 7, 7, 1, 1 << 63} {
		put(t, "versions", d, 0, s, p, sized("a", 60, version))
		holds(t, "P8.1: versions", s, p)
	}
}

func TestGet(t *testing.T) {
	d := device(t, 8)
	s, p := open(t, "a new device", d, 2, 5), none(5)
	holds(t, "P8.2: a new device", s, p)
	for i := range 60 {
		put(t, "Get", d, 2, s, p, sized(fmt.Sprint("k", i), 40+i, uint64(i+1)))
	}
	ahead := d.Copy()
	asked := 0
	for i := range 2000 {
		key := fmt.Sprint("k", i)
		x, e := s.Get(key)
		if want, f := p.get(key); x != want || e != f {
			t.Errorf("P8.2: Get(%q): %v, %d, want %v, %d", key, x, e, want, f)
		}
		if p.may(key) {
			ahead.Read(2 + p.place(key))
			asked++
		}
	}
	same(t, "P8.2: Get reads its bucket's page, where May does not say no", d, ahead)
	if asked < 60 || asked > 1900 {
		t.Errorf("P8.2: May says yes of %d of 2000", asked)
	}
}

// slips finds keys of a bucket that its filter lets through, and that were never told.
func slips(p *plain, bucket, n int) []string {
	var l []string
	for i := 0; len(l) < n && i < 10000000; i++ {
		key := fmt.Sprint("slip ", i)
		if p.place(key) == bucket && p.may(key) {
			l = append(l, key)
		}
	}
	return l
}

func TestGetOfWhatTheFilterLetsThrough(t *testing.T) {
	d := device(t, 4)
	s, p := open(t, "a new device", d, 0, 3), none(3)
	for i, key := range keysOf(8, 1, 3) {
		put(t, "slips", d, 0, s, p, sized(key, 40, uint64(i+1)))
	}
	l := slips(p, 1, 5)
	if len(l) == 0 {
		t.Fatal("no key that the filter lets through")
	}
	for _, key := range l {
		want := d.Copy()
		want.Read(1)
		if x, e := s.Get(key); x != (api.Item{}) || e != api.ENONE || !s.May(key) {
			t.Errorf("P8.2: Get(%q), which the filter lets through: %v, %d, May %t", key, x, e, s.May(key))
		}
		same(t, "P8.2: Get of a key that the filter lets through", d, want)
		drop(t, "a key that the filter lets through", d, 0, s, p, key)
	}
	d.Crash(nil)
	for _, key := range l {
		if x, e := s.Get(key); x != (api.Item{}) || e != api.EOFF {
			t.Errorf("P8.2: Get(%q), which the filter lets through, without power: %v, %d", key, x, e)
		}
	}
}

// A filter forgets none: neither what was dropped nor what was left out; but Open begins anew.
func TestMay(t *testing.T) {
	d := device(t, 3)
	s, p := open(t, "a new device", d, 1, 2), none(2)
	keys := keysOf(30, 0, 2)
	other := keysOf(30, 1, 2)
	for i, key := range keys {
		put(t, "May", d, 1, s, p, sized(key, 110, uint64(i+1)))
		if !s.May(key) {
			t.Errorf("P8.3: May(%q) behind Put", key)
		}
		if i%3 == 0 {
			drop(t, "May", d, 1, s, p, key)
		}
		for _, key := range keys[:i+1] {
			if !s.May(key) {
				t.Errorf("P8.1: the filter forgets %q", key)
			}
		}
		holds(t, "P8.2: May", s, p, append(slices.Clone(keys), other...)...)
	}
	n := open(t, "May", d, 1, 2)
	p = kept(p.lists...)
	holds(t, "P8.1: May behind a new Open", n, p, append(slices.Clone(keys), other...)...)
	gone := 0
	for _, key := range keys {
		if !n.May(key) {
			gone++
		}
	}
	if gone < 20 {
		t.Errorf("P8.1: a new Open forgets %d of %d", gone, len(keys))
	}
}

// Each page's filter is its own: a key of one bucket says nothing of the others.
func TestFiltersArePageByPage(t *testing.T) {
	d := device(t, 2)
	s, p := open(t, "a new device", d, 0, 2), none(2)
	for i, key := range keysOf(200, 0, 2) {
		put(t, "page by page", d, 0, s, p, sized(key, 50, uint64(i+1)))
	}
	yes := 0
	for _, key := range keysOf(100, 1, 2) {
		if s.May(key) {
			yes++
		}
	}
	if yes > 0 {
		t.Errorf("P8.2: May says yes of %d keys of a bucket that was told none", yes)
	}
	holds(t, "P8.2: page by page", s, p, keysOf(300, 0, 2)...)
}

func TestDrop(t *testing.T) {
	keys := keysOf(6, 1, 3)
	other := keysOf(3, 2, 3)
	for k := range keys {
		d := device(t, 5)
		s, p := open(t, "a new device", d, 1, 3), none(3)
		drop(t, "a blank page", d, 1, s, p, keys[k])
		for i, key := range append(slices.Clone(keys), other...) {
			put(t, "Drop", d, 1, s, p, sized(key, 50, uint64(i+1)))
		}
		d.Flush()
		for _, key := range append(strange(), "k", keys[k]+"0", "x"+keys[k]) {
			drop(t, "a key that is not there", d, 1, s, p, key)
		}
		if len(d.Waiting()) > 0 {
			t.Errorf("P8.2: Drop of none writes: %v", d.Waiting())
		}
		drop(t, "one of six", d, 1, s, p, keys[k])
		holds(t, "P8.2: behind Drop", s, p, keys...)
		drop(t, "one that was dropped", d, 1, s, p, keys[k])
		put(t, "one that was dropped", d, 1, s, p, sized(keys[k], 50, 70))
		holds(t, "P8.2: behind Put of what was dropped", s, p, keys...)
		for _, key := range keys {
			drop(t, "all of them", d, 1, s, p, key)
			holds(t, "P8.2: behind Drop of all", s, p, keys...)
		}
		if b, e := d.Read(2); e != api.OK || !bytes.Equal(b, make([]byte, api.PageSize)) {
			t.Errorf("P8.2: the page of an empty list: %v, %d", b, e)
		}
		holds(t, "P8.1: opened behind Drop", open(t, "Drop", d, 1, 3), kept(p.lists...), keys...)
	}
}

func TestItems(t *testing.T) {
	d := device(t, 9)
	s, p := open(t, "a new device", d, 1, 7), none(7)
	if l, e := s.Items(); len(l) > 0 || e != api.OK {
		t.Errorf("P8.2: Items of none: %v, %d", l, e)
	}
	for i := 40; i > 0; i-- {
		put(t, "Items", d, 1, s, p, sized(fmt.Sprint("k", i), 60, uint64(100-i)))
		want := d.Copy()
		for at := range 7 {
			want.Read(1 + at)
		}
		if l, e := s.Items(); e != api.OK || !slices.Equal(l, p.items()) {
			t.Errorf("P8.2: Items: %v, %d, want %v", l, e, p.items())
		}
		same(t, "P8.2: Items reads each page", d, want)
	}
}

// lie is a way in which a page may stand: nil bytes are a blank page.
type lie struct {
	name string
	b    []byte
	torn bool
	list []api.Item // that it holds
}

// changed is a page with another byte.
func changed(b []byte, at int, to byte) []byte {
	b = slices.Clone(b)
	b[at] = to
	return b
}

// lies are pages of every kind, with keys of a bucket.
func lies(keys []string) []lie {
	l := []api.Item{sized(keys[0], 60, 1), sized(keys[1], 70, 2), sized(keys[2], 120, 3)}
	good, full := laid(l...), []api.Item{sized(keys[0], 96, 4), sized(keys[1], 96, 5), sized(keys[2], 96, 6), sized(keys[3], 96, 7)}
	out := []lie{
		{"blank", nil, false, nil},
		{"torn", nil, true, nil},
		{"noughts", []byte{}, false, nil},
		{"a nought ahead", changed(good, 0, 0), false, nil},
		{"a list", good, false, l},
		{"one", laid(l[0]), false, l[:1]},
		{"full", laid(full...), false, full},
		{"one that is too great for Put", laid(sized(keys[0], 384, 8)), false, []api.Item{sized(keys[0], 384, 8)}},
		{"one of 121 bytes", laid(l[0], sized(keys[1], 121, 8)), false, []api.Item{l[0], sized(keys[1], 121, 8)}},
		{"rubbish", []byte{9, 9, 9}, false, nil},
		{"ones", bytes.Repeat([]byte{1}, api.PageSize), false, nil},
		{"bytes 255", bytes.Repeat([]byte{255}, api.PageSize), false, nil},
		{"one byte late", append([]byte{1}, good[:api.PageSize-1]...), false, nil},
		{"something behind the list", changed(good, 250, 1), false, nil},
		{"something behind a nought", changed(good, 251, 1), false, l},
		{"something at the end", changed(good, api.PageSize-1, 1), false, l},
		{"the last one is cut off", append(slices.Clone(good[:200]), make([]byte, 184)...), false, nil},
		{"the last one begins with a nought", changed(good, 130, 0), false, l[:2]},
		{"a version 0", laid(l[0], api.Item{Key: keys[1]}), false, nil},
	}
	for _, at := range []int{1, 2, 3, 4, 8, 16, 24, 28, 31, 32, 59, 60, 63, 90, 130, 133, 160, 162, 249} {
		out = append(out, lie{fmt.Sprintf("another byte at %d", at), changed(good, at, good[at]^128), false, nil})
	}
	return out
}

// stood makes a device of pages as they are given, all flushed.
func stood(t *testing.T, l ...lie) *flash.Dev {
	d := device(t, len(l))
	for at, x := range l {
		if x.torn {
			d.Write(at, laid(sized("torn", 50, 1)))
		}
	}
	d.Crash(bytes.Repeat([]byte{2}, len(l)))
	d.On()
	for at, x := range l {
		if x.b != nil {
			d.Write(at, x.b)
		}
	}
	d.Flush()
	return d
}

// Each kind of page in each of the places, with another kind in the next one; pages outside are left alone.
func TestPagesOfEveryKind(t *testing.T) {
	keys := [][]string{keysOf(6, 0, 3), keysOf(6, 1, 3), keysOf(6, 2, 3)}
	outside := lie{"outside", laid(sized("outside", 60, 1)), false, nil}
	kinds := len(lies(keys[0]))
	for a := range kinds {
		for b := range kinds {
			l := []lie{lies(keys[0])[a], lies(keys[1])[b], lies(keys[2])[(a+b)%kinds]}
			what := fmt.Sprintf("%s, %s, %s", l[0].name, l[1].name, l[2].name)
			d := stood(t, outside, l[0], l[1], l[2], outside)
			p := kept(l[0].list, l[1].list, l[2].list)
			s := open(t, what, d, 1, 3)
			holds(t, "P8.1: "+what, s, p, slices.Concat(keys...)...)
			for i := range 3 {
				drop(t, what, d, 1, s, p, keys[i][1])
				put(t, what, d, 1, s, p, sized(keys[i][4], 120, 50))
				put(t, what, d, 1, s, p, sized(keys[i][0], 55, 51))
				drop(t, what, d, 1, s, p, keys[i][5])
			}
			holds(t, "P8.2: "+what+", behind calls", s, p, slices.Concat(keys...)...)
		}
	}
}

// A page that is spoilt behind the store's back has no list for any call, but what the filter was told stays told.
func TestSpoiltBehindItsBack(t *testing.T) {
	keys := keysOf(6, 1, 2)
	for _, x := range lies(keys) {
		if x.torn {
			continue
		}
		d := device(t, 2)
		s, p := open(t, "a new device", d, 0, 2), none(2)
		for i, key := range keys {
			put(t, x.name, d, 0, s, p, sized(key, 60, uint64(i+10)))
		}
		d.Erase(1)
		if x.b != nil {
			d.Write(1, x.b)
		}
		p.lists[1] = slices.Clone(x.list)
		holds(t, "P8.2: spoilt behind its back: "+x.name, s, p, keys...)
		for _, key := range keys {
			if !s.May(key) {
				t.Errorf("P8.1: %s: the filter forgets %q", x.name, key)
			}
		}
		drop(t, x.name, d, 0, s, p, keys[0])
		put(t, x.name, d, 0, s, p, sized(keys[3], 100, 30))
		holds(t, "P8.1: put on what was spoilt: "+x.name, s, p, keys...)
	}
}

// What another store put is there for Put, Drop and Items; of Get the filter knows nothing.
func TestWrittenBehindItsBack(t *testing.T) {
	d := device(t, 1)
	s, p := open(t, "a new device", d, 0, 1), none(1)
	n, q := open(t, "a new device", d, 0, 1), none(1)
	put(t, "the other one", d, 0, n, q, sized("a", 100, 1))
	put(t, "the other one", d, 0, n, q, sized("b", 100, 2))
	p.lists[0] = slices.Clone(q.lists[0])
	holds(t, "P8.2: behind its back", s, p)
	if x, e := s.Get("a"); x != (api.Item{}) || e != api.ENONE || s.May("a") {
		t.Errorf("P8.2: Get of what the filter was not told: %v, %d", x, e)
	}
	drop(t, "behind its back", d, 0, s, p, "b")
	put(t, "behind its back", d, 0, s, p, sized("c", 120, 3))
	put(t, "behind its back", d, 0, s, p, sized("d", 120, 4))
	put(t, "behind its back", d, 0, s, p, sized("e", 120, 5))
	holds(t, "P8.2: behind its back", s, p, "a", "b", "c", "d", "e")
	q.lists[0] = slices.Clone(p.lists[0])
	holds(t, "P8.2: the other one", n, q, "a", "b", "c", "d", "e")
}

// A list need not be one that a store wrote: keys of other buckets, and a key more than once.
func TestListsByHand(t *testing.T) {
	d := device(t, 2)
	var l []api.Item
	for i, key := range keysOf(9, 1, 2) {
		l = append(l, sized(key, 40, uint64(i+1)))
	}
	d.Write(0, laid(l...))
	s, p := open(t, "keys of another bucket", d, 0, 2), kept(l, nil)
	holds(t, "P8.1: keys of another bucket", s, p, keysOf(3000, 0, 2)...)
	for i, key := range keysOf(4, 0, 2) {
		put(t, "keys of another bucket", d, 0, s, p, sized(key, 90, uint64(i+100)))
		holds(t, "P8.1: keys of another bucket", s, p)
	}
	for _, again := range []bool{false, true} {
		d := device(t, 1)
		x, y := sized("x", 50, 1), sized("y", 51, 2)
		d.Write(0, laid(x, y, x, y, x))
		s, p := open(t, "a key more than once", d, 0, 1), kept([]api.Item{x, y, x, y, x})
		holds(t, "P8.1: a key more than once", s, kept([]api.Item{x, y, x, y, x}))
		if again {
			put(t, "a key more than once", d, 0, s, p, sized("x", 60, 3))
		} else {
			drop(t, "a key more than once", d, 0, s, p, "x")
		}
		if n := strings.Count(fmt.Sprint(p.items()), "{x "); n > 1 {
			t.Errorf("P8.1: %d of one key", n)
		}
		if l, e := s.Items(); e != api.OK || !slices.Equal(l, p.items()) {
			t.Errorf("P8.2: a key more than once: Items: %v, %d, want %v", l, e, p.items())
		}
	}
}

// things are what begun puts ahead of its flush.
func things() []api.Item {
	var l []api.Item
	for i := range 20 {
		l = append(l, sized(fmt.Sprint("k", i), 50+i, uint64(i+1)))
	}
	return l
}

// begun makes a store of the pages 1 to 3 with things in all of them, flushed; more waits in the second.
func begun(t *testing.T) (*flash.Dev, *Store, *plain) {
	d := device(t, 5)
	d.Write(0, []byte{7})
	s, p := open(t, "a new device", d, 1, 3), none(3)
	for _, x := range things() {
		put(t, "begun", d, 1, s, p, x)
	}
	d.Flush()
	put(t, "begun", d, 1, s, p, sized(keysOf(30, 1, 3)[29], 100, 50))
	return d, s, p
}

// done holds a store that is done: what needs the device is EOFF, what does not is as it was.
func done(t *testing.T, what string, d *flash.Dev, s *Store, p *plain) {
	t.Helper()
	ahead := d.Copy()
	for _, x := range wrong() {
		unchanged(t, what, d, s, p, api.EARG, x)
	}
	keys := strange()
	for i := range 60 {
		keys = append(keys, fmt.Sprint("k", i))
	}
	yes := 0
	for _, key := range keys {
		if s.May(key) != p.may(key) {
			t.Errorf("P8.2: %s: May(%q): %t, want %t", what, key, s.May(key), p.may(key))
		}
		want := api.ENONE
		if p.may(key) {
			want = api.EOFF
			yes++
		}
		if x, e := s.Get(key); x != (api.Item{}) || e != want {
			t.Errorf("P8.2: %s: Get(%q): %v, %d, want %d", what, key, x, e, want)
		}
		if e := s.Drop(key); e != api.EOFF {
			t.Errorf("P8.2: %s: Drop(%q): %d", what, key, e)
		}
		if len(key) >= 1 && len(key) <= 88 {
			unchanged(t, what, d, s, p, api.EOFF, api.Item{Key: key, Version: 9})
		}
	}
	if l, e := s.Items(); len(l) > 0 || e != api.EOFF {
		t.Errorf("P8.2: %s: Items: %v, %d", what, l, e)
	}
	if yes == 0 || yes == len(keys) {
		t.Errorf("%s: May says yes of %d of %d", what, yes, len(keys))
	}
	same(t, "R3: "+what, d, ahead)
}

// A store is done with any loss of its device, however it came, and stays so.
func TestDone(t *testing.T) {
	for name, loss := range map[string]func(d *flash.Dev){
		"Crash":                func(d *flash.Dev) { d.Crash(nil) },
		"Crash with picks":     func(d *flash.Dev) { d.Crash([]byte{2, 1}) },
		"Crash and On":         func(d *flash.Dev) { d.Crash(nil); d.On() },
		"On":                   func(d *flash.Dev) { d.On() },
		"On, twice":            func(d *flash.Dev) { d.On(); d.On() },
		"Write that is cut":    func(d *flash.Dev) { d.Arm(1); d.Write(0, nil) },
		"Erase that is cut":    func(d *flash.Dev) { d.Arm(1); d.Erase(0) },
		"Flush that is cut":    func(d *flash.Dev) { d.Arm(1); d.Flush() },
		"Flush cut, and On":    func(d *flash.Dev) { d.Arm(1); d.Flush(); d.On() },
		"On, and about to go":  func(d *flash.Dev) { d.On(); d.Arm(1) },
		"On, with other pages": func(d *flash.Dev) { d.On(); d.Write(1, laid(sized("k", 50, 1))); d.Erase(2) },
	} {
		d, s, p := begun(t)
		loss(d)
		done(t, "done by "+name, d, s, p)
		d.On()
		done(t, "done by "+name+", and the power on", d, s, p)
		n := open(t, name, d, 1, 3)
		if l, e := n.Items(); len(l) == 0 || e != api.OK {
			t.Errorf("P8.1: opened behind %s: %v, %d", name, l, e)
		}
		done(t, "done by "+name+", and another one open", d, s, p)
	}
}

// Losses ahead of Open are not the store's.
func TestOpenedBehindLosses(t *testing.T) {
	d := device(t, 2)
	for range 3 {
		d.Crash(nil)
		d.On()
	}
	s, p := open(t, "behind losses", d, 0, 2), none(2)
	put(t, "behind losses", d, 0, s, p, sized("a", 60, 1))
	if d.Arm(1); d.Write(2, nil) != api.EARG {
		t.Fatalf("P3.1: Write past the end")
	}
	d.Arm(0)
	put(t, "nothing was lost", d, 0, s, p, sized("b", 60, 2))
	drop(t, "nothing was lost", d, 0, s, p, "a")
	holds(t, "P8.2: behind losses", s, p, "a")
}

// cut holds a call that finds the power gone as it writes: its page was read, nothing has changed.
func cut(t *testing.T, what string, d *flash.Dev, s *Store, p *plain, key string, call func() api.Errno) {
	t.Helper()
	want := d.Copy()
	want.Arm(1)
	want.Read(1 + p.place(key))
	want.Write(1+p.place(key), nil)
	d.Arm(1)
	if e := call(); e != api.EOFF {
		t.Errorf("P8.1, P8.2: %s: %d", what, e)
	}
	same(t, "R3: "+what, d, want)
	done(t, what, d, s, p)
}

// The power goes as Put and Drop write; what the crash leaves of the pages that wait is what is opened.
func TestCut(t *testing.T) {
	drops := 0
	for _, pick := range []byte{0, 1, 2, 3, 254, 255} {
		for _, key := range []string{"k3", "k17", "k18", "k19", "other", "a", "b"} {
			d, s, p := begun(t)
			cut(t, "Put of "+key, d, s, p, key, func() api.Errno {
				l, e := s.Put(sized(key, 110, 77))
				if len(l) > 0 {
					t.Errorf("R2: Put: %v beside %d", l, e)
				}
				return e
			})
			left(t, fmt.Sprintf("Put of %s, pick %d", key, pick), d, p, pick)
			if _, e := p.get(key); e != api.OK {
				continue
			}
			drops++
			d, s, p = begun(t)
			cut(t, "Drop of "+key, d, s, p, key, func() api.Errno { return s.Drop(key) })
			left(t, fmt.Sprintf("Drop of %s, pick %d", key, pick), d, p, pick)
		}
	}
	if drops == 0 {
		t.Errorf("P8.2: no Drop was cut")
	}
}

// left lets the power go with a pick for the page that waits, the second bucket's, and holds what is
// opened then against the lists ahead: the last of that bucket had been put, and was not flushed.
func left(t *testing.T, what string, d *flash.Dev, p *plain, pick byte) {
	t.Helper()
	last := none(3)
	for _, x := range things() {
		last.put(x)
	}
	d.Crash([]byte{pick, 1, 1})
	d.On()
	lists := slices.Clone(p.lists)
	switch pick % 3 {
	case 0:
		lists[1] = last.lists[1]
	case 2:
		lists[1] = nil
	}
	holds(t, "P8.1: "+what, open(t, what, d, 1, 3), kept(lists...))
}

// What needs no step of the power goes on when the next step is the last.
func TestCallsThatWriteNothing(t *testing.T) {
	d, s, p := begun(t)
	d.Arm(1)
	holds(t, "P8.2: the next step is the last", s, p)
	for _, key := range append(strange(), keysOf(30, 1, 3)[28]) {
		drop(t, "the next step is the last", d, 1, s, p, key)
	}
	if !d.Power() || d.Flush() != api.EOFF {
		t.Errorf("P8.2: a step was taken")
	}
	d, s, p = begun(t)
	d.Arm(3)
	put(t, "two steps ahead", d, 1, s, p, sized("a", 70, 60))
	drop(t, "one step ahead", d, 1, s, p, "a")
	cut(t, "the last step", d, s, p, "a", func() api.Errno { _, e := s.Put(sized("a", 70, 61)); return e })
}

// Each pick for what was put and not flushed: as it was, as it was put, or none.
func TestPicks(t *testing.T) {
	for pick := range 256 {
		for _, flushed := range []bool{false, true} {
			d := device(t, 2)
			s, p := open(t, "a new device", d, 0, 2), none(2)
			a, b := keysOf(2, 0, 2), keysOf(2, 1, 2)
			put(t, "picks", d, 0, s, p, sized(a[0], 60, 1))
			put(t, "picks", d, 0, s, p, sized(b[0], 60, 2))
			d.Flush()
			last := p.copy()
			put(t, "picks", d, 0, s, p, sized(a[0], 70, 3))
			put(t, "picks", d, 0, s, p, sized(a[1], 70, 4))
			drop(t, "picks", d, 0, s, p, b[0])
			put(t, "picks", d, 0, s, p, sized(b[1], 70, 5))
			if flushed {
				d.Flush()
			}
			d.Crash([]byte{byte(pick), byte(pick / 3)})
			d.On()
			now := slices.Clone(p.lists)
			for i, k := range []int{pick % 3, pick / 3 % 3} {
				switch {
				case flushed:
				case k == 0:
					now[i] = last.lists[i]
				case k == 2:
					now[i] = nil
				}
			}
			what := fmt.Sprintf("pick %d, flushed %t", pick, flushed)
			holds(t, "P8.3: "+what, open(t, what, d, 0, 2), kept(now...), slices.Concat(a, b)...)
		}
	}
}

// spoil changes a list in all its room, and behind.
func spoil(l []api.Item) {
	l = l[:cap(l)]
	for i := range l {
		l[i] = api.Item{Key: "spoilt", Value: "x", Version: 1}
	}
	_ = append(l[:0], api.Item{Key: "more", Version: 2}, api.Item{Key: "yet more", Version: 3})
}

func TestMemory(t *testing.T) {
	d := device(t, 1)
	s, p := open(t, "a new device", d, 0, 1), none(1)
	for i := range 8 {
		put(t, "memory", d, 0, s, p, sized(fmt.Sprint("k", i), 45, uint64(i+1)))
	}
	kinds := map[string]func() []api.Item{
		"Items": func() []api.Item { l, _ := s.Items(); return l },
		"Put": func() []api.Item {
			x := sized("great", 110, 20)
			p.put(x)
			l, _ := s.Put(x)
			p.drop("great")
			s.Drop("great")
			for i := range 8 {
				x := sized(fmt.Sprint("k", i), 45, uint64(i+1))
				p.put(x)
				s.Put(x)
			}
			return l
		},
	}
	for name, call := range kinds {
		one, two := call(), call()
		if len(one) == 0 {
			t.Errorf("R4: %s answers nothing", name)
		}
		ahead, page := slices.Clone(two), d.Copy()
		spoil(one)
		if !slices.Equal(two, ahead) {
			t.Errorf("R4: an answer of %s that is changed changes another", name)
		}
		same(t, "R4: an answer of "+name+" that is changed", d, page)
		holds(t, "R4: an answer of "+name+" that is changed", s, p)
		put(t, "an answer that is changed", d, 0, s, p, sized("z", 100, 30))
		if !slices.Equal(two, ahead) {
			t.Errorf("R4: Put changes an answer of %s", name)
		}
	}
	x, _ := s.Get("z")
	x.Value = "another"
	holds(t, "R4: an answer of Get that is changed", s, p)
}

// Stores beside each other on one device, and on a copy of it, are their own.
func TestBesideEachOther(t *testing.T) {
	d := device(t, 6)
	a, p := open(t, "a new device", d, 0, 2), none(2)
	b, q := open(t, "a new device", d, 2, 4), none(4)
	c := d.Copy()
	for i := range 30 {
		put(t, "beside each other", d, 0, a, p, sized(fmt.Sprint("k", i), 60, uint64(i+1)))
		put(t, "beside each other", d, 2, b, q, sized(fmt.Sprint("k", i), 70, uint64(i+100)))
		if i%4 == 0 {
			drop(t, "beside each other", d, 2, b, q, fmt.Sprint("k", i/2))
		}
	}
	holds(t, "R5: the one", a, p)
	holds(t, "R5: the other", b, q)
	c.Crash(nil)
	put(t, "a copy has crashed", d, 0, a, p, sized("z", 60, 200))
	c.On()
	holds(t, "R5: a copy", open(t, "a copy", c, 0, 6), none(6))
	holds(t, "R5: the one", a, p)
}

// runner goes on with one store, and keeps what it should hold, and what its pages were when they last
// did not wait, by the words of chapters 3 and 8 alone.
type runner struct {
	t     *testing.T
	r     *rand.Rand
	d     *flash.Dev
	s     *Store
	p     *plain
	first int
	last  [][]api.Item // of the pages that wait, what they were
	waits []bool
	armed int
	off   bool
	done  bool
	told  map[string]api.Item // was put, and neither left out nor dropped nor lost with its page
}

// power takes one step, and tells whether it goes now.
func (x *runner) power() bool {
	if x.armed > 0 {
		x.armed--
		if x.armed == 0 {
			x.off, x.done = true, true
			return true
		}
	}
	return false
}

// hold lets a bucket's page wait.
func (x *runner) hold(i int) {
	if !x.waits[i] {
		x.waits[i], x.last[i] = true, slices.Clone(x.p.lists[i])
	}
}

// settle lets each page that waits become what its pick says.
func (x *runner) settle(picks []byte) {
	k := 0
	for i := range x.waits {
		if !x.waits[i] {
			continue
		}
		pick := byte(0)
		if k < len(picks) {
			pick = picks[k] % 3
		}
		k++
		switch pick {
		case 0:
			x.p.lists[i] = x.last[i]
		case 2:
			x.p.lists[i] = nil
		}
		x.waits[i] = false
		if pick != 1 {
			x.lose(i)
		}
	}
}

// lose is for a page that no longer holds what was put there.
func (x *runner) lose(i int) {
	for key := range x.told {
		if x.p.place(key) == i {
			delete(x.told, key)
		}
	}
}

func (x *runner) item() api.Item {
	key := fmt.Sprint("key", x.r.Intn(60))
	size := 32 + len(key) + x.r.Intn(89-len(key))
	if x.r.Intn(12) == 0 {
		size = 121 + x.r.Intn(3)
	}
	y := sized(key, size, x.r.Uint64())
	y.Flags, y.Exp = x.r.Uint32(), int64(x.r.Uint64())
	if x.r.Intn(20) == 0 {
		y.Version = 0
	}
	return y
}

func (x *runner) put() {
	y := x.item()
	var want api.Errno
	var out []api.Item
	switch {
	case y.Version == 0 || 32+len(y.Key)+len(y.Value) > 120:
		want = api.EARG
	case x.done || x.power():
		want = api.EOFF
	default:
		x.hold(x.p.place(y.Key))
		out = x.p.put(y)
		x.told[y.Key] = y
		for _, z := range out {
			delete(x.told, z.Key)
		}
	}
	if l, e := x.s.Put(y); e != want || !slices.Equal(l, out) {
		x.t.Errorf("P8.1: Put(%v): %v, %d, want %v, %d", y, l, e, out, want)
	}
}

func (x *runner) drop() {
	key := fmt.Sprint("key", x.r.Intn(60))
	want := api.EOFF
	if !x.done {
		i, after := x.p.place(key), x.p.copy()
		want = after.drop(key)
		if want == api.OK && x.power() {
			want = api.EOFF
		} else if want == api.OK {
			x.hold(i)
			x.p = after
			delete(x.told, key)
		}
	}
	if e := x.s.Drop(key); e != want {
		x.t.Errorf("P8.2: Drop(%q): %d, want %d", key, e, want)
	}
}

// spoil writes, erases or empties a page behind the store's back.
func (x *runner) spoil() {
	i := x.r.Intn(len(x.waits))
	x.lose(i)
	if x.off || x.power() {
		x.d.Erase(x.first + i)
		return
	}
	x.hold(i)
	x.p.lists[i] = nil
	switch x.r.Intn(3) {
	case 0:
		x.d.Erase(x.first + i)
	case 1:
		x.d.Write(x.first+i, []byte{7, 7})
	default:
		y := sized("key7", 90, 7)
		x.p.lists[i] = []api.Item{y}
		x.d.Write(x.first+i, laid(y))
	}
}

func (x *runner) open() {
	s, e := Open(x.d, x.first, len(x.waits))
	if x.off {
		if s != nil || e != api.EOFF {
			x.t.Errorf("P8.1: Open without power: %v, %d", s, e)
		}
		return
	}
	if s == nil || e != api.OK {
		x.t.Fatalf("P8.1: Open: %v, %d", s, e)
	}
	x.s, x.p, x.done = s, kept(x.p.lists...), false
}

func (x *runner) step() {
	switch x.r.Intn(24) {
	case 0:
		x.armed = x.r.Intn(9)
		x.d.Arm(x.armed)
	case 1:
		picks := make([]byte, x.r.Intn(8))
		x.r.Read(picks)
		x.d.Crash(picks)
		x.settle(picks)
		x.off, x.done = true, true
	case 2:
		x.d.On()
		x.settle(nil)
		x.off, x.done, x.armed = false, true, 0
	case 3, 4, 5:
		if x.off {
			x.d.On()
			x.settle(nil)
			x.off, x.armed = false, 0
		}
		x.open()
	case 6:
		x.open()
	case 7:
		if x.off || x.power() {
			x.d.Flush()
			break
		}
		x.d.Flush()
		clear(x.waits)
	case 8:
		if x.r.Intn(4) == 0 {
			x.spoil()
		}
	case 9, 10, 11, 12, 13:
		x.drop()
	default:
		x.put()
	}
}

// holds holds the store, done or not, against the lists.
func (x *runner) holds(what string) {
	for i := range 80 {
		key := fmt.Sprint("key", i)
		if x.s.May(key) != x.p.may(key) {
			x.t.Errorf("P8.2: %s: May(%q): %t, want %t", what, key, x.s.May(key), x.p.may(key))
		}
		want, f := x.p.get(key)
		if x.done && x.p.may(key) {
			want, f = api.Item{}, api.EOFF
		}
		if y, e := x.s.Get(key); y != want || e != f {
			x.t.Errorf("P8.2: %s: Get(%q): %v, %d, want %v, %d", what, key, y, e, want, f)
		}
	}
	all, f := x.p.items(), api.OK
	if x.done {
		all, f = nil, api.EOFF
	}
	if l, e := x.s.Items(); e != f || !slices.Equal(l, all) {
		x.t.Errorf("P8.2: %s: Items: %v, %d, want %v, %d", what, l, e, all, f)
	}
	for key, y := range x.told {
		if z, e := x.s.Get(key); !x.done && (z != y || e != api.OK) {
			x.t.Errorf("P8.3: %s: %q was put, and neither left out nor dropped: %v, %d, want %v", what, key, z, e, y)
		}
	}
}

func TestALongRun(t *testing.T) {
	for seed := range int64(40) {
		pages := []int{1, 2, 5, 8}[seed%4]
		x := &runner{t: t, r: rand.New(rand.NewSource(seed)), d: device(t, pages+4), p: none(pages), first: int(seed % 5), last: make([][]api.Item, pages), waits: make([]bool, pages), told: map[string]api.Item{}}
		x.open()
		for k := range 500 {
			x.step()
			x.holds(fmt.Sprintf("run %d, step %d", seed, k))
			if t.Failed() {
				return
			}
		}
	}
}
