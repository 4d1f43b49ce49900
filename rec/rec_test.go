package rec

import (
	"bytes"
	"encoding/binary"
	"fmt"
	"hash/crc32"
	"math"
	"math/rand"
	"slices"
	"strings"
	"testing"

	"cellaret/api"
)

func crc(b []byte) uint32 { return crc32.Checksum(b, crc32.MakeTable(crc32.Castagnoli)) }

// laid lays a record by the chapter's words, whatever the item is: its numbers are cut to their bytes.
func laid(x api.Item) []byte {
	b := make([]byte, 32)
	b[0] = byte(len(x.Key))
	binary.LittleEndian.PutUint16(b[1:], uint16(len(x.Value)))
	b[3] = 82
	binary.LittleEndian.PutUint32(b[4:], x.Flags)
	binary.LittleEndian.PutUint64(b[8:], uint64(x.Exp))
	binary.LittleEndian.PutUint64(b[16:], x.Version)
	binary.LittleEndian.PutUint32(b[28:], crc([]byte(x.Key+x.Value)))
	return resummed(append(b, x.Key+x.Value...))
}

// resummed gives a record the first sum that its head has.
func resummed(b []byte) []byte {
	binary.LittleEndian.PutUint32(b[24:], crc(b[:24]))
	return b
}

// read reads one record by the chapter's words.
func read(b []byte) (api.Item, int, api.Errno) {
	if len(b) == 0 || b[0] == 0 {
		return api.Item{}, 0, api.ENONE
	}
	if len(b) < 32 {
		return api.Item{}, 0, api.EFORM
	}
	key, value := int(b[0]), int(binary.LittleEndian.Uint16(b[1:]))
	end := 32 + key + value
	if key > 250 || value > 1024 || end > len(b) {
		return api.Item{}, 0, api.EFORM
	}
	x := api.Item{
		Key:     string(b[32 : 32+key]),
		Value:   string(b[32+key : end]),
		Flags:   binary.LittleEndian.Uint32(b[4:]),
		Exp:     int64(binary.LittleEndian.Uint64(b[8:])),
		Version: binary.LittleEndian.Uint64(b[16:]),
	}
	if x.Version == 0 || !bytes.Equal(laid(x), b[:end]) {
		return api.Item{}, 0, api.EFORM
	}
	return x, end, api.OK
}

// readAll reads all of them by the chapter's words.
func readAll(b []byte) ([]api.Item, api.Errno) {
	var l []api.Item
	for {
		x, n, e := read(b)
		switch e {
		case api.ENONE:
			return l, api.OK
		case api.EFORM:
			return nil, e
		}
		l, b = append(l, x), b[n:]
	}
}

// spread makes a text with every byte in it, 0 and those that are no runes too.
func spread(n, from int) string {
	b := make([]byte, n)
	for i := range b {
		b[i] = byte(from + i*167)
	}
	return string(b)
}

// goods are items that are Good: ordinary ones, and each field at its edges, one by one and together.
func goods() []api.Item {
	l := []api.Item{
		{Key: "k", Value: "v", Version: 1},
		{Key: "key", Value: "value", Flags: 3, Exp: 4, Version: 9},
		{Key: "\x00", Value: "\x00\x00", Version: 1},
		{Key: "\xff\xfe", Value: "\x80é\r\n", Version: 82},
		{Key: "a b\n", Version: 1 << 40, Flags: 0x01020304, Exp: 0x1112131415161718},
		{Key: spread(api.MaxKey, 3), Value: spread(api.MaxValue, 5), Flags: math.MaxUint32, Exp: math.MaxInt64, Version: math.MaxUint64},
		{Key: spread(api.MaxKey, 0), Flags: math.MaxUint32, Exp: math.MinInt64, Version: math.MaxUint64},
		{Key: "k", Value: spread(api.MaxValue, 0), Exp: -1, Version: 1},
	}
	for _, n := range []int{1, 2, 127, 128, 249, 250} {
		l = append(l, api.Item{Key: strings.Repeat("K", n), Value: "v", Version: 7})
	}
	for _, n := range []int{0, 1, 255, 256, 257, 511, 512, 1023, 1024} {
		l = append(l, api.Item{Key: "k", Value: strings.Repeat("V", n), Version: 7})
	}
	for i := range 64 {
		l = append(l, api.Item{Key: "k", Flags: uint32(1) << (i % 32), Exp: int64(1) << i, Version: 1 << i})
	}
	for _, v := range []uint64{1, 2, math.MaxInt64, 1 << 63, math.MaxUint64 - 1, math.MaxUint64} {
		l = append(l, api.Item{Key: "k", Value: "v", Version: v})
	}
	for _, v := range []int64{math.MinInt64, math.MinInt64 + 1, -1, 0, 1, math.MaxInt64} {
		l = append(l, api.Item{Key: "k", Value: "v", Version: 1, Exp: v})
	}
	for _, v := range []uint32{0, 1, math.MaxInt32, math.MaxUint32} {
		l = append(l, api.Item{Key: "k", Value: "v", Version: 1, Flags: v})
	}
	return l
}

// bads are items that are not Good, each for one reason, and for several. Some of their lengths would be
// those of good ones if they were cut to the bytes that a record has for them.
func bads() []api.Item {
	l := []api.Item{
		{},
		{Key: "k"},
		{Key: "k", Value: "v", Flags: math.MaxUint32, Exp: math.MaxInt64},
		{Value: "v", Version: 1},
		{Version: math.MaxUint64},
		{Key: strings.Repeat("k", 251), Value: strings.Repeat("v", 1025)},
	}
	for _, n := range []int{0, 251, 252, 255, 256, 257, 506, 512, 65536, 65537} {
		l = append(l, api.Item{Key: strings.Repeat("k", n), Value: "v", Version: 1})
	}
	for _, n := range []int{1025, 1026, 2048, 65535, 65536, 65537, 1 << 20} {
		l = append(l, api.Item{Key: "k", Value: strings.Repeat("v", n), Version: 1})
	}
	return l
}

// none holds that a Take answered an error, and nothing beside it.
func none(t *testing.T, what string, b []byte, asked api.Errno) {
	t.Helper()
	if x, n, e := Take(b); x != (api.Item{}) || n != 0 || e != asked {
		t.Errorf("P4.1: Take of %s: %.40q, %d, error %d, want nothing, 0, error %d", what, fmt.Sprint(x), n, e, asked)
	}
}

// noList holds that a List answered EFORM, and nothing beside it.
func noList(t *testing.T, what string, b []byte) {
	t.Helper()
	if l, e := List(b); len(l) != 0 || e != api.EFORM {
		t.Errorf("P4.2: List of %s: %d items, error %d, want none, EFORM", what, len(l), e)
	}
}

// holds holds that a List answered items.
func holds(t *testing.T, promise, what string, b []byte, l []api.Item) {
	t.Helper()
	if got, e := List(b); e != api.OK || !slices.Equal(got, l) {
		t.Errorf("%s: List of %s: %d items, error %d, want these %d", promise, what, len(got), e, len(l))
	}
}

func total(l []api.Item) int {
	n := 0
	for _, x := range l {
		n += 32 + len(x.Key) + len(x.Value)
	}
	return n
}

func joined(l []api.Item) []byte {
	var b []byte
	for _, x := range l {
		b = append(b, laid(x)...)
	}
	return b
}

func TestGood(t *testing.T) {
	for i, x := range goods() {
		if !Good(x) {
			t.Errorf("P4.1: Good of the good item %d is false", i)
		}
	}
	for i, x := range bads() {
		if Good(x) {
			t.Errorf("P4.1: Good of the bad item %d is true", i)
		}
	}
}

func TestSize(t *testing.T) {
	for i, x := range append(goods(), bads()...) {
		if n := Size(x); n != 32+len(x.Key)+len(x.Value) {
			t.Errorf("P4.1: Size of the item %d: %d, want %d", i, n, 32+len(x.Key)+len(x.Value))
		}
	}
	if n := Size(api.Item{}); n != 32 {
		t.Errorf("P4.1: Size of an item with nothing: %d, want 32", n)
	}
}

func TestExamples(t *testing.T) {
	b, e := Put(api.Item{Key: "k", Value: "v", Version: 1})
	if len(b) != 34 || e != api.OK {
		t.Errorf("P4.1: Put of the example: %d bytes, error %d, want 34, OK", len(b), e)
	}
	none(t, "no bytes", []byte{}, api.ENONE)
	none(t, "one byte 1", []byte{1}, api.EFORM)
}

// Each byte of a record, written out.
func TestWhereTheBytesLie(t *testing.T) {
	b, e := Put(api.Item{Key: "key", Value: strings.Repeat("v", 258), Flags: 0x04030201, Exp: 0x1817161514131211, Version: 0x2827262524232221})
	head := []byte{3, 2, 1, 82, 1, 2, 3, 4, 0x11, 0x12, 0x13, 0x14, 0x15, 0x16, 0x17, 0x18, 0x21, 0x22, 0x23, 0x24, 0x25, 0x26, 0x27, 0x28}
	text := []byte("key" + strings.Repeat("v", 258))
	first, second := crc(head), crc(text)
	asked := append(slices.Clone(head), byte(first), byte(first>>8), byte(first>>16), byte(first>>24), byte(second), byte(second>>8), byte(second>>16), byte(second>>24))
	asked = append(asked, text...)
	if e != api.OK || !bytes.Equal(b, asked) {
		t.Errorf("P4.1: Put: %x, error %d, want %x", b, e, asked)
	}
}

func TestPut(t *testing.T) {
	for i, x := range goods() {
		b, e := Put(x)
		if e != api.OK || !bytes.Equal(b, laid(x)) || len(b) != Size(x) {
			t.Errorf("P4.1: Put of the good item %d: %x, error %d, want %x", i, b, e, laid(x))
		}
	}
	for i, x := range bads() {
		if b, e := Put(x); len(b) != 0 || e != api.EARG {
			t.Errorf("P4.1: Put of the bad item %d: %d bytes, error %d, want none, EARG", i, len(b), e)
		}
	}
}

// What stands behind a record is not looked at.
func TestTake(t *testing.T) {
	for i, x := range goods() {
		for _, behind := range []string{"", "\x00", "\x01", "\xff\xff", spread(1500, 82), string(laid(x))} {
			y, n, e := Take(append(laid(x), behind...))
			if y != x || n != Size(x) || e != api.OK {
				t.Errorf("P4.1: Take of the good item %d with %d bytes behind: %d, error %d, want %d, OK, and the item", i, len(behind), n, e, Size(x))
			}
		}
	}
}

func TestTakeOfNone(t *testing.T) {
	none(t, "nil", nil, api.ENONE)
	none(t, "no bytes", []byte{}, api.ENONE)
	none(t, "no bytes of several", []byte{1, 2, 3}[:0], api.ENONE)
	for n := range 100 {
		none(t, fmt.Sprintf("a byte 0 with %d bytes 0 behind", n), make([]byte, n+1), api.ENONE)
		none(t, fmt.Sprintf("a byte 0 with %d bytes behind", n), append([]byte{0}, spread(n, 1)...), api.ENONE)
	}
	for _, x := range goods() {
		none(t, "a byte 0 with a record behind", append([]byte{0}, laid(x)...), api.ENONE)
		x.Key = ""
		none(t, "a record whose key has no byte", laid(x), api.ENONE)
	}
}

// A first byte that is not 0 with too few bytes, whatever they are.
func TestTakeOfFew(t *testing.T) {
	for n := 1; n < 32; n++ {
		for first := 1; first < 256; first++ {
			b := make([]byte, n)
			b[0] = byte(first)
			none(t, fmt.Sprintf("%d bytes, the first %d", n, first), b, api.EFORM)
			copy(b[1:], laid(goods()[1])[1:])
			none(t, fmt.Sprintf("%d bytes of a record, the first %d", n, first), b, api.EFORM)
		}
	}
}

func TestTakeOfACutOne(t *testing.T) {
	for i, x := range goods()[:8] {
		b := laid(x)
		for n := 1; n < len(b); n++ {
			// The bytes are there behind the cut: the length alone tells.
			none(t, fmt.Sprintf("the good item %d, cut at %d", i, n), b[:n], api.EFORM)
		}
	}
}

func TestTakeOfAnotherMark(t *testing.T) {
	for mark := range 256 {
		b := laid(goods()[0])
		b[3] = byte(mark)
		resummed(b)
		if mark != 82 {
			none(t, fmt.Sprintf("a byte 3 that is %d", mark), b, api.EFORM)
		} else if _, n, e := Take(b); n != 34 || e != api.OK {
			t.Errorf("P4.1: Take of a byte 3 that is 82: %d, error %d", n, e)
		}
	}
}

// Each bit counts: those of both sums, and those that they are of.
func TestTakeOfASpoiltOne(t *testing.T) {
	for i, x := range goods()[:8] {
		b := laid(x)
		for at := range b {
			for bit := range 8 {
				b[at] ^= 1 << bit
				asked := api.EFORM
				if b[0] == 0 {
					asked = api.ENONE
				}
				none(t, fmt.Sprintf("the good item %d with the bit %d of the byte %d turned", i, bit, at), b, asked)
				b[at] ^= 1 << bit
			}
		}
	}
}

// Numbers that no Good item has, with sums that are right and all bytes there.
func TestTakeOfNumbersThatMayNotBe(t *testing.T) {
	for key := 1; key < 256; key++ {
		for _, value := range []int{0, 1, 255, 256, 1023, 1024, 1025, 1280, 2048, 65535} {
			for _, version := range []uint64{0, 1, 1 << 32, 1 << 63, math.MaxUint64} {
				x := api.Item{Key: spread(key, value), Value: spread(value, key), Version: version, Flags: 5, Exp: -5}
				if value > 1025 && version != 1 {
					continue
				}
				if key > 250 || value > 1024 || version == 0 {
					none(t, fmt.Sprintf("a key of %d, a value of %d, the version %d", key, value, version), laid(x), api.EFORM)
				} else if y, n, e := Take(laid(x)); y != x || n != 32+key+value || e != api.OK {
					t.Errorf("P4.1: Take of a key of %d, a value of %d, the version %d: %d, error %d", key, value, version, n, e)
				}
			}
		}
	}
}

// A first sum that is right with lengths that go past the bytes that are there.
func TestTakeOfLengthsPastTheEnd(t *testing.T) {
	b := laid(api.Item{Key: "key", Value: "value", Version: 1})
	for key := 1; key < 256; key++ {
		for _, value := range []int{0, 1, 4, 5, 6, 256, 1024, 1025, 65535} {
			c := slices.Clone(b)
			c[0] = byte(key)
			binary.LittleEndian.PutUint16(c[1:], uint16(value))
			resummed(c)
			x, n, e := Take(c)
			y, m, f := read(c)
			if x != y || n != m || e != f {
				t.Errorf("P4.1: Take of lengths %d, %d in 40 bytes: %d, error %d, want %d, error %d", key, value, n, e, m, f)
			}
		}
	}
}

func TestListOfNone(t *testing.T) {
	holds(t, "P4.2", "nil", nil, nil)
	holds(t, "P4.2", "no bytes", []byte{}, nil)
	for _, behind := range []string{"", "\x00", "\x01", "\xff\xff\xff", spread(500, 82), string(joined(goods()))} {
		holds(t, "P4.2", "a byte 0 first", append([]byte{0}, behind...), nil)
	}
}

func TestList(t *testing.T) {
	l := goods()
	for n := range len(l) + 1 {
		holds(t, "P4.2", fmt.Sprintf("%d records up to the end", n), joined(l[:n]), l[:n])
		for _, behind := range []string{"", "\x00\x00", "\x01\x02", "\xff", string(joined(l[:2]))} {
			holds(t, "P4.2", fmt.Sprintf("%d records and a byte 0", n), append(append(joined(l[:n]), 0), behind...), l[:n])
		}
	}
	twice := []api.Item{l[0], l[0], l[1], l[0]}
	holds(t, "P4.2", "records with one key", joined(twice), twice)
}

func TestListOfOneWithNoForm(t *testing.T) {
	l := goods()[:5]
	for n := range len(l) + 1 {
		b := joined(l[:n])
		for _, spoilt := range []string{"\x01", "\xff\xff", spread(31, 1), spread(300, 1), string(laid(bads()[1]))} {
			noList(t, fmt.Sprintf("%d good records and none", n), append(slices.Clone(b), spoilt...))
			noList(t, fmt.Sprintf("%d good records, none, and good ones", n), append(append(slices.Clone(b), spoilt...), joined(l)...))
		}
	}
	// One record among the good ones cut, or with one bit turned, where the rest are whole.
	for i, x := range l {
		ahead, behind := joined(l[:i]), joined(l[i+1:])
		one := laid(x)
		for at := range one {
			c := slices.Clone(one)
			c[at] ^= 0x80
			noList(t, fmt.Sprintf("good records, the number %d spoilt at %d", i, at), slices.Concat(ahead, c, behind))
			if at > 0 {
				noList(t, fmt.Sprintf("good records, the number %d cut at %d", i, at), slices.Concat(ahead, one[:at]))
			}
			// Noughts in the place of what was cut off may be what stood there.
			c = slices.Concat(ahead, one[:at], make([]byte, len(one)-at), behind)
			got, e := List(c)
			asked, f := readAll(c)
			if !slices.Equal(got, asked) || e != f {
				t.Errorf("P4.2: List of good records, the number %d noughts from %d on: %d items, error %d, want %d, error %d", i, at, len(got), e, len(asked), f)
			}
		}
	}
}

func TestLay(t *testing.T) {
	all := goods()
	for n := range len(all) + 1 {
		l := all[:n]
		size := total(l)
		for _, room := range []int{size, size + 1, size + 31, size + 384, 65536} {
			b, e := Lay(l, room)
			asked := append(joined(l), make([]byte, room-size)...)
			if e != api.OK || !bytes.Equal(b, asked) {
				t.Errorf("P4.2: Lay of %d in %d: %d bytes, error %d", n, room, len(b), e)
			}
			holds(t, "P4.3", fmt.Sprintf("Lay of %d in %d", n, room), b, l)
		}
		for _, room := range []int{size - 1, size / 2, -1, -size - 1, math.MinInt, math.MinInt + 1} {
			if room == size {
				continue
			}
			if b, e := Lay(l, room); len(b) != 0 || e != api.EFULL {
				t.Errorf("P4.2: Lay of %d in %d: %d bytes, error %d, want none, EFULL", n, room, len(b), e)
			}
		}
	}
	if b, e := Lay(all, 0); len(b) != 0 || e != api.EFULL {
		t.Errorf("P4.2: Lay in 0: %d bytes, error %d, want none, EFULL", len(b), e)
	}
}

func TestLayOfTheMostThatFits(t *testing.T) {
	var l []api.Item
	for range 50 {
		l = append(l, api.Item{Key: spread(250, 1), Value: spread(1024, 2), Version: math.MaxUint64})
	}
	// 50 of 1306 bytes are 65300: one of 236 fits in 65536 without a byte to spare.
	last := api.Item{Key: "k", Value: strings.Repeat("v", 203), Version: 1}
	fits := append(slices.Clone(l), last)
	b, e := Lay(fits, 65536)
	if len(b) != 65536 || e != api.OK {
		t.Errorf("P4.2: Lay of 65536 bytes: %d bytes, error %d", len(b), e)
	}
	holds(t, "P4.3", "Lay of 65536 bytes", b, fits)
	last.Value += "v"
	if b, e := Lay(append(slices.Clone(l), last), 65536); len(b) != 0 || e != api.EFULL {
		t.Errorf("P4.2: Lay of 65537 bytes in 65536: %d bytes, error %d, want none, EFULL", len(b), e)
	}
	if b, e := Lay(slices.Repeat(fits, 300), 65536); len(b) != 0 || e != api.EFULL {
		t.Errorf("P4.2: Lay of many: %d bytes, error %d, want none, EFULL", len(b), e)
	}
}

func TestLayRefused(t *testing.T) {
	for _, l := range [][]api.Item{nil, {}, goods()[:3], goods()} {
		for _, room := range []int{65537, 65538, 1 << 20, math.MaxInt32, math.MaxInt} {
			if b, e := Lay(l, room); len(b) != 0 || e != api.EARG {
				t.Errorf("P4.2: Lay of %d in %d: %d bytes, error %d, want none, EARG", len(l), room, len(b), e)
			}
		}
	}
	// One that is not Good, in any place; EARG is ahead of EFULL, whatever the room.
	for i, bad := range bads() {
		for at := range 4 {
			l := slices.Insert(goods()[:3:3], at, bad)
			for _, room := range []int{65536, total(l), 100, 33, 1, 0, -1, math.MinInt, 65537} {
				if b, e := Lay(l, room); len(b) != 0 || e != api.EARG {
					t.Errorf("P4.2: Lay with the bad item %d in the place %d, in %d: %d bytes, error %d, want none, EARG", i, at, room, len(b), e)
				}
			}
		}
	}
}

func TestLayOfNone(t *testing.T) {
	for _, l := range [][]api.Item{nil, {}, goods()[:0]} {
		for _, room := range []int{0, 1, 31, 32, 384, 65535, 65536} {
			b, e := Lay(l, room)
			if e != api.OK || !bytes.Equal(b, make([]byte, room)) {
				t.Errorf("P4.2: Lay of none in %d: %d bytes, error %d", room, len(b), e)
			}
			holds(t, "P4.3", "Lay of none", b, nil)
		}
	}
}

// R4: neither what is handed in, nor the room behind it, is changed or kept.
func TestWhatIsHandedIn(t *testing.T) {
	l := goods()[:5]
	room := append(joined(l), spread(400, 1)...)
	before := slices.Clone(room)
	size := total(l)
	b := room[:size]
	got, _ := List(b)
	x, _, _ := Take(b)
	items := append(slices.Clone(l), goods()[6], api.Item{})
	whole, e := Lay(items[:5], size+9)
	if !bytes.Equal(room, before) || !slices.Equal(items, append(slices.Clone(l), goods()[6], api.Item{})) {
		t.Errorf("R4: what was handed in, or the room behind it, is changed")
	}
	clear(room)
	clear(items)
	if x != l[0] || !slices.Equal(got, l) {
		t.Errorf("R4: bytes that were handed in and changed afterwards change an item")
	}
	if e != api.OK || !bytes.Equal(whole, append(joined(l), make([]byte, 9)...)) {
		t.Errorf("R4: items that were handed in and changed afterwards change the records")
	}
}

// R4, R5: an answer that is changed, spare room too, changes nothing else.
func TestWhatIsAnswered(t *testing.T) {
	l := goods()[:5]
	size := total(l)
	room := append(joined(l), spread(400, 1)...)
	before := slices.Clone(room)
	spoil := func(b []byte) {
		for i := range b[:cap(b)] {
			b[:cap(b)][i] = 0xa5
		}
	}
	record, _ := Put(l[1])
	whole, _ := Lay(l, size+9)
	blank, _ := Lay(nil, 384)
	items, _ := List(room[:size])
	again, _ := List(room[:size])
	spoil(record)
	spoil(whole)
	spoil(blank)
	clear(items[:cap(items)])
	if !bytes.Equal(room, before) || !slices.Equal(l, goods()[:5]) || !slices.Equal(again, l) {
		t.Errorf("R4: an answer that is changed changes something else")
	}
	if b, _ := Put(l[1]); !bytes.Equal(b, laid(l[1])) {
		t.Errorf("R5: Put hangs on an answer that was changed")
	}
	if b, _ := Lay(l, size+9); !bytes.Equal(b, append(joined(l), make([]byte, 9)...)) {
		t.Errorf("R5: Lay hangs on an answer that was changed")
	}
	if b, _ := Lay(nil, 384); !bytes.Equal(b, make([]byte, 384)) {
		t.Errorf("R5: Lay of none hangs on an answer that was changed")
	}
}

// Bytes of any kind, most of them near to records, held against the chapter's words.
func TestAnyBytes(t *testing.T) {
	r := rand.New(rand.NewSource(4))
	all := goods()
	for range 20000 {
		var b []byte
		for range r.Intn(4) {
			b = append(b, laid(all[r.Intn(len(all))])...)
		}
		for range r.Intn(3) {
			if len(b) > 32 {
				b[r.Intn(40)%len(b)] = byte(r.Intn(256))
			}
		}
		if len(b) > 32 && r.Intn(2) == 0 {
			resummed(b)
		}
		switch r.Intn(4) {
		case 0:
			b = b[:r.Intn(len(b)+1)]
		case 1:
			b = append(b, spread(r.Intn(40), r.Intn(256))...)
		}
		x, n, e := Take(b)
		y, m, f := read(b)
		if x != y || n != m || e != f {
			t.Fatalf("P4.1: Take(%x): %d, error %d, want %d, error %d", b, n, e, m, f)
		}
		l, e := List(b)
		asked, f := readAll(b)
		if !slices.Equal(l, asked) || e != f {
			t.Fatalf("P4.2: List(%x): %d items, error %d, want %d, error %d", b, len(l), e, len(asked), f)
		}
	}
}

// Lists of any kind.
func TestListOfLay(t *testing.T) {
	r := rand.New(rand.NewSource(43))
	for range 3000 {
		var l []api.Item
		for range r.Intn(8) {
			l = append(l, api.Item{
				Key:     spread(1+r.Intn(api.MaxKey), r.Intn(256)),
				Value:   spread(r.Intn(api.MaxValue+1), r.Intn(256)),
				Flags:   r.Uint32(),
				Exp:     int64(r.Uint64()),
				Version: r.Uint64() | 1,
			})
		}
		room := total(l) + r.Intn(3)*r.Intn(400)
		b, e := Lay(l, room)
		if e != api.OK || len(b) != room {
			t.Fatalf("P4.2: Lay of %d in %d: %d bytes, error %d", len(l), room, len(b), e)
		}
		holds(t, "P4.3", "Lay", b, l)
	}
}
