package super

import (
	"bytes"
	"encoding/binary"
	"fmt"
	"hash/crc32"
	"math"
	"math/rand"
	"slices"
	"testing"

	"cellaret/api"
	"cellaret/flash"
)

// laid lays a block by the chapter's words.
func laid(b Block) []byte {
	p := make([]byte, 64)
	p[0], p[1], p[2], p[3] = 83, 85, 80, 69
	binary.LittleEndian.PutUint64(p[4:], b.Seq)
	binary.LittleEndian.PutUint64(p[12:], b.Epoch)
	binary.LittleEndian.PutUint64(p[20:], b.Reserved)
	binary.LittleEndian.PutUint64(p[28:], b.Horizon)
	binary.LittleEndian.PutUint64(p[36:], b.Gen)
	if b.Clean {
		p[44] = 1
	}
	if b.Image >= 0 && b.Image <= 1<<31-1 {
		binary.LittleEndian.PutUint32(p[48:], uint32(b.Image))
	}
	return resummed(p)
}

// resummed gives bytes the sum that they have.
func resummed(p []byte) []byte {
	binary.LittleEndian.PutUint32(p[60:], crc32.Checksum(p[:60], crc32.MakeTable(crc32.Castagnoli)))
	return p
}

// read reads a block by the chapter's words, one by one.
func read(p []byte) (Block, api.Errno) {
	if len(p) < 64 || string(p[:4]) != "SUPE" || p[44] > 1 || p[51] > 127 {
		return Block{}, api.EFORM
	}
	if !bytes.Equal(p[45:48], make([]byte, 3)) || !bytes.Equal(p[52:60], make([]byte, 8)) {
		return Block{}, api.EFORM
	}
	if !bytes.Equal(resummed(slices.Clone(p[:64])), p[:64]) {
		return Block{}, api.EFORM
	}
	return Block{
		Seq:      binary.LittleEndian.Uint64(p[4:]),
		Epoch:    binary.LittleEndian.Uint64(p[12:]),
		Reserved: binary.LittleEndian.Uint64(p[20:]),
		Horizon:  binary.LittleEndian.Uint64(p[28:]),
		Gen:      binary.LittleEndian.Uint64(p[36:]),
		Clean:    p[44] == 1,
		Image:    int(binary.LittleEndian.Uint32(p[48:])),
	}, api.OK
}

// kept is a block as its bytes tell it.
func kept(b Block) Block {
	if b.Image < 0 || b.Image > 1<<31-1 {
		b.Image = 0
	}
	return b
}

// images are those at the edges, in the bound and out of it.
func images() []int {
	return []int{0, 1, 255, 256, 1 << 16, 1 << 24, 1<<31 - 2, 1<<31 - 1, 1 << 31, 1<<31 + 1, 1<<32 - 1, 1 << 32, 1<<32 + 5, math.MaxInt, -1, -5, -(1 << 31), -(1 << 32) + 7, math.MinInt}
}

// blocks are ordinary ones, and each field at its edges, one by one and together.
func blocks() []Block {
	most := uint64(math.MaxUint64)
	l := []Block{
		{},
		{Seq: 1, Epoch: 2, Reserved: 3, Horizon: 4, Gen: 5, Clean: true, Image: 6},
		{Seq: most, Epoch: most, Reserved: most, Horizon: most, Gen: most, Clean: true, Image: math.MaxInt32},
		{Seq: most, Epoch: most, Reserved: most, Horizon: most, Gen: most, Image: math.MaxInt},
		{Clean: true},
	}
	numbers := []uint64{1, 255, 256, math.MaxInt64, most - 1, most}
	for i := range 64 {
		numbers = append(numbers, 1<<i)
	}
	for _, n := range numbers {
		l = append(l, Block{Seq: n}, Block{Epoch: n}, Block{Reserved: n}, Block{Horizon: n}, Block{Gen: n})
	}
	for _, n := range images() {
		l = append(l, Block{Image: n}, Block{Seq: 3, Image: n, Clean: true})
	}
	return l
}

func device(t *testing.T, pages int) *flash.Dev {
	t.Helper()
	d, e := flash.New(pages)
	if e != api.OK {
		t.Fatalf("P3.1: New(%d): %d", pages, e)
	}
	return d
}

// holds holds what a call answered against the block and the error that the document asks.
func holds(t *testing.T, what string, got Block, e api.Errno, want Block, f api.Errno) {
	t.Helper()
	if got != want || e != f {
		t.Errorf("%s: %+v, %d, want %+v, %d", what, got, e, want, f)
	}
}

func TestExamples(t *testing.T) {
	d := device(t, 2)
	b, e := Load(d)
	holds(t, "P5.2: example: Load of a new device", b, e, Block{}, api.ENONE)
	b, e = Store(d, Block{Epoch: 1})
	holds(t, "P5.2: example: Store", b, e, Block{Seq: 1, Epoch: 1}, api.OK)
	p, f := d.Read(1)
	if f != api.OK || !bytes.Equal(p[:64], laid(Block{Seq: 1, Epoch: 1})) {
		t.Errorf("P5.2: example: page 1: %v, %d", p, f)
	}
	if _, f := d.Read(0); f != api.ENONE {
		t.Errorf("P5.2: example: page 0: %d, want blank", f)
	}
}

func TestWhereEachByteLies(t *testing.T) {
	b := Block{
		Seq:      0x0807060504030201,
		Epoch:    0x1817161514131211,
		Reserved: 0x2827262524232221,
		Horizon:  0x3837363534333231,
		Gen:      0xf8f7f6f5f4f3f2f1,
		Clean:    true,
		Image:    0x7e535251,
	}
	want := []byte{
		83, 85, 80, 69,
		1, 2, 3, 4, 5, 6, 7, 8,
		0x11, 0x12, 0x13, 0x14, 0x15, 0x16, 0x17, 0x18,
		0x21, 0x22, 0x23, 0x24, 0x25, 0x26, 0x27, 0x28,
		0x31, 0x32, 0x33, 0x34, 0x35, 0x36, 0x37, 0x38,
		0xf1, 0xf2, 0xf3, 0xf4, 0xf5, 0xf6, 0xf7, 0xf8,
		1, 0, 0, 0,
		0x51, 0x52, 0x53, 0x7e,
		0, 0, 0, 0, 0, 0, 0, 0,
		0, 0, 0, 0,
	}
	resummed(want)
	if p := Encode(b); !bytes.Equal(p, want) {
		t.Errorf("P5.1: Encode: %v, want %v", p, want)
	}
	c, e := Decode(want)
	holds(t, "P5.1: Decode", c, e, b, api.OK)
}

func TestEncode(t *testing.T) {
	for _, b := range blocks() {
		p := Encode(b)
		if len(p) != 64 || !bytes.Equal(p, laid(b)) {
			t.Errorf("P5.1: Encode(%+v): %v, want %v", b, p, laid(b))
		}
		c, e := Decode(p)
		holds(t, fmt.Sprintf("P5.1: Decode of Encode(%+v)", b), c, e, kept(b), api.OK)
	}
}

func TestDecodeOfManyLengths(t *testing.T) {
	for _, b := range blocks() {
		p := laid(b)
		for n := range 64 {
			c, e := Decode(p[:n])
			holds(t, fmt.Sprintf("P5.1: Decode of %d bytes", n), c, e, Block{}, api.EFORM)
		}
		for _, n := range []int{1, 2, 63, 64, 65, 320, 5000} {
			for _, fill := range []byte{0, 1, 83, 255} {
				c, e := Decode(append(slices.Clone(p), bytes.Repeat([]byte{fill}, n)...))
				holds(t, fmt.Sprintf("P5.1: Decode with %d bytes %d behind", n, fill), c, e, kept(b), api.OK)
			}
		}
		c, e := Decode(append(slices.Clone(p), laid(Block{Seq: 77})...))
		holds(t, "P5.1: Decode with another block behind", c, e, kept(b), api.OK)
	}
	c, e := Decode(nil)
	holds(t, "P5.1: Decode of nil", c, e, Block{}, api.EFORM)
	c, e = Decode([]byte{})
	holds(t, "P5.1: Decode of no bytes", c, e, Block{}, api.EFORM)
	for _, n := range []int{63, 64, 65, 384} {
		for _, fill := range []byte{0, 83, 255} {
			c, e = Decode(bytes.Repeat([]byte{fill}, n))
			holds(t, fmt.Sprintf("P5.1: Decode of %d bytes %d", n, fill), c, e, Block{}, api.EFORM)
		}
	}
	c, e = Decode(append([]byte{0}, laid(Block{Seq: 1})...))
	holds(t, "P5.1: Decode of a block that begins one byte late", c, e, Block{}, api.EFORM)
}

// Without a new sum no change of one byte passes.
func TestDecodeOfSpoiltBytes(t *testing.T) {
	for _, b := range []Block{{}, {Seq: 1, Epoch: 2, Reserved: 3, Horizon: 4, Gen: 5, Clean: true, Image: 6}, {Seq: math.MaxUint64, Image: math.MaxInt32}} {
		p := laid(b)
		for at := range p {
			for change := 1; change < 256; change++ {
				q := slices.Clone(p)
				q[at] ^= byte(change)
				c, e := Decode(q)
				holds(t, fmt.Sprintf("P5.1: Decode of %+v with the byte %d changed to %d", b, at, q[at]), c, e, Block{}, api.EFORM)
			}
		}
	}
}

// With a new sum a change of one byte passes where Encode makes such bytes, and nowhere else.
func TestDecodeOfBytesWithARightSum(t *testing.T) {
	refused := 0
	for _, b := range []Block{{}, {Seq: 1, Epoch: 2, Reserved: 3, Horizon: 4, Gen: 5, Clean: true, Image: 6}, {Seq: math.MaxUint64, Image: math.MaxInt32}} {
		for at := range 60 {
			for v := range 256 {
				q := laid(b)
				q[at] = byte(v)
				resummed(q)
				want, f := read(q)
				c, e := Decode(q)
				holds(t, fmt.Sprintf("P5.1: Decode of %+v with the byte %d set to %d, and a right sum", b, at, v), c, e, want, f)
				if f != api.OK {
					refused++
				}
			}
		}
	}
	// 4 bytes of the mark and 11 of noughts have one value, Clean's has two, Image's highest 128
	if asked := 3 * (15*255 + 254 + 128); refused != asked {
		t.Errorf("P5.1: %d changes were to be refused, want %d", refused, asked)
	}
	for _, image := range []uint32{1 << 31, 1<<31 + 1, math.MaxUint32} {
		q := laid(Block{Seq: 1})
		binary.LittleEndian.PutUint32(q[48:], image)
		c, e := Decode(resummed(q))
		holds(t, fmt.Sprintf("P5.1: Decode of the image %d", image), c, e, Block{}, api.EFORM)
	}
}

func TestDecodeOfManyBytes(t *testing.T) {
	r := rand.New(rand.NewSource(5))
	for range 50000 {
		b := Block{Seq: r.Uint64(), Epoch: r.Uint64(), Reserved: r.Uint64(), Horizon: r.Uint64(), Gen: r.Uint64(), Clean: r.Intn(2) == 1, Image: int(r.Uint64() >> r.Intn(64))}
		p := laid(b)
		if q := Encode(b); !bytes.Equal(q, p) {
			t.Fatalf("P5.1: Encode(%+v): %v, want %v", b, q, p)
		}
		for range r.Intn(3) {
			p[r.Intn(64)] ^= byte(1 << r.Intn(8))
		}
		if r.Intn(2) == 0 {
			resummed(p)
		}
		p = append(p, make([]byte, r.Intn(3))...)[:64-r.Intn(2)*r.Intn(2)]
		want, f := read(p)
		c, e := Decode(p)
		if c != want || e != f {
			t.Fatalf("P5.1: Decode(%v): %+v, %d, want %+v, %d", p, c, e, want, f)
		}
	}
}

func TestMemory(t *testing.T) {
	b := Block{Seq: 1, Epoch: 2, Reserved: 3, Horizon: 4, Gen: 5, Clean: true, Image: 6}
	first, second := Encode(b), Encode(b)
	for i := range first[:cap(first)] {
		first[:cap(first)][i] = 99
	}
	if !bytes.Equal(second, laid(b)) || !bytes.Equal(Encode(b), laid(b)) {
		t.Errorf("R4: an answer of Encode that was changed changes another")
	}
	room := append(laid(b), bytes.Repeat([]byte{7}, 64)...)
	ahead := slices.Clone(room)
	for _, n := range []int{0, 63, 64, 65} {
		c, e := Decode(room[:n])
		if !bytes.Equal(room, ahead) {
			t.Errorf("R4: Decode of %d bytes changes them, or the room behind", n)
		}
		for i := range room {
			room[i] = 99
		}
		want, f := read(ahead[:n])
		holds(t, "R4: a block whose bytes are changed behind Decode", c, e, want, f)
		copy(room, ahead)
	}
	d := device(t, 2)
	told, _ := Store(d, b)
	told.Gen, told.Seq = 77, 78
	b.Epoch = 79
	c, e := Load(d)
	holds(t, "R4: a block that is changed behind Store", c, e, Block{Seq: 1, Epoch: 2, Reserved: 3, Horizon: 4, Gen: 5, Clean: true, Image: 6}, api.OK)
	c.Gen = 80
	c, e = Load(d)
	holds(t, "R4: a block that is changed behind Load", c, e, Block{Seq: 1, Epoch: 2, Reserved: 3, Horizon: 4, Gen: 5, Clean: true, Image: 6}, api.OK)
}

// picture tells all that calls could tell of a device.
func picture(d *flash.Dev) string {
	c := d.Copy()
	s := fmt.Sprintln(c.Pages(), c.Power(), c.Losses(), c.Waiting(), c.Stat())
	armed := 0
	for a := c.Copy(); a.Power() && armed < 9; armed++ {
		a.Flush()
	}
	s += fmt.Sprintln("armed", armed)
	for at := range c.Pages() {
		b, e := c.Read(at)
		s += fmt.Sprintln(at, b, int(e))
	}
	c.On()
	for at := range c.Pages() {
		b, e := c.Read(at)
		s += fmt.Sprintln(at, b, int(e))
	}
	return s
}

// refused holds both calls against an error, with nothing changed by them.
func refused(t *testing.T, what string, d *flash.Dev, want api.Errno) {
	t.Helper()
	ahead := picture(d)
	b, e := Load(d)
	holds(t, "P5.2: Load: "+what, b, e, Block{}, want)
	b, e = Store(d, Block{Seq: 5, Epoch: 1, Clean: true, Image: 3})
	holds(t, "P5.2: Store: "+what, b, e, Block{}, want)
	if picture(d) != ahead {
		t.Errorf("R3: %s: the device is changed", what)
	}
}

func TestTooFewPagesAndNoPower(t *testing.T) {
	refused(t, "no pages", &flash.Dev{}, api.EARG)
	one := device(t, 1)
	refused(t, "one page", one, api.EARG)
	one.Write(0, laid(Block{Seq: 4}))
	refused(t, "one page with a block", one, api.EARG)
	one.Flush()
	one.Arm(1)
	refused(t, "one page, and the power goes with the next call", one, api.EARG)
	one.Crash(nil)
	refused(t, "one page without power", one, api.EARG)
	for _, pages := range []int{2, 3, api.MaxPages} {
		d := device(t, pages)
		d.Crash(nil)
		refused(t, "a new device without power", d, api.EOFF)
		d.On()
		b, e := Load(d)
		holds(t, "P5.2: Load of a new device that was off", b, e, Block{}, api.ENONE)
		Store(d, Block{Gen: 8})
		d.Crash(nil)
		refused(t, "a block, but no power", d, api.EOFF)
		d.On()
		b, e = Load(d)
		holds(t, "P5.2: Load of a device that was off", b, e, Block{Seq: 1, Gen: 8}, api.OK)
		d.Arm(1)
		d.Flush()
		refused(t, "a power that went by Arm", d, api.EOFF)
		d.On()
		d.Write(0, laid(Block{Seq: math.MaxUint64}))
		d.Flush()
		d.Crash(nil)
		refused(t, "the greatest Seq, but no power", d, api.EOFF)
	}
}

// lie is a way in which a slot may stand.
type lie struct {
	name  string
	block Block
	good  bool
	lay   func(d *flash.Dev, at int)
}

// good lets a slot hold a block.
func good(b Block) lie {
	return lie{fmt.Sprintf("%+v", b), b, true, func(d *flash.Dev, at int) { d.Write(at, laid(b)) }}
}

func tear(d *flash.Dev, at int) {
	d.Flush()
	d.Write(at, laid(Block{Seq: 60}))
	d.Crash([]byte{2})
	d.On()
}

// lies are slots of every kind; gen is told in those that are good, so that two of one Seq differ.
func lies(gen uint64) []lie {
	spoilt := laid(Block{Seq: 50})
	spoilt[8]++
	strange := laid(Block{Seq: 50})
	strange[45] = 1
	resummed(strange)
	l := []lie{
		{"blank", Block{}, false, func(d *flash.Dev, at int) {}},
		{"erased", Block{}, false, func(d *flash.Dev, at int) { d.Write(at, laid(Block{Seq: 60})); d.Erase(at) }},
		{"torn", Block{}, false, tear},
		{"noughts", Block{}, false, func(d *flash.Dev, at int) { d.Write(at, nil) }},
		{"spoilt", Block{}, false, func(d *flash.Dev, at int) { d.Write(at, spoilt) }},
		{"strange", Block{}, false, func(d *flash.Dev, at int) { d.Write(at, strange) }},
		{"cut short", Block{}, false, func(d *flash.Dev, at int) { d.Write(at, laid(Block{Seq: 50})[:63]) }},
		{"a block with more behind", Block{Seq: 6, Gen: gen}, true, func(d *flash.Dev, at int) {
			d.Write(at, append(laid(Block{Seq: 6, Gen: gen}), bytes.Repeat([]byte{9}, api.PageSize-64)...))
		}},
	}
	for _, seq := range []uint64{0, 1, 2, 6, 7, math.MaxInt64, 1 << 63, math.MaxUint64 - 1, math.MaxUint64} {
		l = append(l, good(Block{Seq: seq, Gen: gen, Clean: gen == 1, Image: int(gen)}))
	}
	return l
}

// newest is what Load answers, by the chapter's words.
func newest(first, second lie) (Block, api.Errno) {
	switch {
	case first.good && second.good && second.block.Seq > first.block.Seq:
		return second.block, api.OK
	case first.good:
		return first.block, api.OK
	case second.good:
		return second.block, api.OK
	}
	return Block{}, api.ENONE
}

func TestSlotsOfEveryKind(t *testing.T) {
	for _, first := range lies(1) {
		for _, second := range lies(2) {
			for _, flushed := range []bool{false, true} {
				what := fmt.Sprintf("page 0 %s, page 1 %s, flushed %t", first.name, second.name, flushed)
				d := device(t, 3)
				first.lay(d, 0)
				second.lay(d, 1)
				d.Write(2, laid(Block{Seq: 100}))
				if flushed {
					d.Flush()
				}
				want, f := newest(first, second)
				ahead := d.Stat()
				b, e := Load(d)
				holds(t, "P5.2: Load: "+what, b, e, want, f)
				ahead.Reads += 2
				if d.Stat() != ahead {
					t.Errorf("P5.2: Load: %s: Stat %v, want %v", what, d.Stat(), ahead)
				}
				stored(t, what, d, want.Seq)
			}
		}
	}
}

// stored holds a Store behind a Seq against the chapter's words.
func stored(t *testing.T, what string, d *flash.Dev, seq uint64) {
	t.Helper()
	ahead, was := d.Copy(), d.Stat()
	given := Block{Seq: 12345, Epoch: 1, Reserved: 2, Horizon: 3, Gen: 4, Clean: true, Image: -7}
	b, e := Store(d, given)
	was.Reads += 2
	if seq == math.MaxUint64 {
		holds(t, "P5.2: Store: "+what, b, e, Block{}, api.EWORN)
		ahead.Read(0)
		ahead.Read(1)
		if picture(d) != picture(ahead) {
			t.Errorf("R3: Store with EWORN: %s: the device is changed", what)
		}
		return
	}
	want := Block{Seq: seq + 1, Epoch: 1, Reserved: 2, Horizon: 3, Gen: 4, Clean: true}
	holds(t, "P5.2: Store: "+what, b, e, want, api.OK)
	was.Writes, was.Flushes = was.Writes+1, was.Flushes+1
	if d.Stat() != was || len(d.Waiting()) != 0 {
		t.Errorf("P5.2: Store: %s: Stat %v, want %v; %v wait", what, d.Stat(), was, d.Waiting())
	}
	at := int(want.Seq % 2)
	for page := range d.Pages() {
		p, g := d.Read(page)
		q, h := ahead.Read(page)
		if page == at {
			q, h = append(laid(want), make([]byte, api.PageSize-64)...), api.OK
		}
		if !bytes.Equal(p, q) || g != h {
			t.Errorf("P5.2: Store: %s: page %d: %v, %d, want %v, %d", what, page, p, g, q, h)
		}
	}
}

func TestStoreByTurns(t *testing.T) {
	for _, pages := range []int{2, 3} {
		d := device(t, pages)
		list := blocks()
		for i, b := range list {
			got, e := Store(d, b)
			want := kept(b)
			want.Seq = uint64(i + 1)
			holds(t, fmt.Sprintf("P5.2: Store(%+v)", b), got, e, want, api.OK)
			got, e = Load(d)
			holds(t, "P5.2: Load behind Store", got, e, want, api.OK)
			p, _ := d.Read((i + 1) % 2)
			if !bytes.Equal(p, append(laid(want), make([]byte, api.PageSize-64)...)) {
				t.Errorf("P5.2: Store(%+v): page %d: %v", b, (i+1)%2, p)
			}
			if q, _ := d.Read(i % 2); i > 0 {
				c, _ := read(q)
				if c.Seq != uint64(i) {
					t.Errorf("P5.2: Store(%+v): page %d has Seq %d, want the block ahead's, %d", b, i%2, c.Seq, i)
				}
			}
		}
		if s, n := d.Stat(), len(list); s.Writes != n || s.Flushes != n {
			t.Errorf("P5.2: Store: %d blocks with %+v", n, s)
		}
	}
}

// Near the greatest Seq: the last one is stored, and none behind it, whatever b's Seq is.
func TestGreatestSeq(t *testing.T) {
	most := uint64(math.MaxUint64)
	d := device(t, 2)
	d.Write(0, laid(Block{Seq: most - 1}))
	b, e := Store(d, Block{Gen: 1})
	holds(t, "P5.2: Store of the greatest Seq", b, e, Block{Seq: most, Gen: 1}, api.OK)
	for _, seq := range []uint64{0, 1, most - 1, most} {
		b, e = Store(d, Block{Seq: seq, Gen: 2})
		holds(t, "P5.2: Store behind the greatest Seq", b, e, Block{}, api.EWORN)
	}
	d.Arm(1)
	b, e = Store(d, Block{Gen: 2})
	holds(t, "R6: Store behind the greatest Seq, with the power about to go", b, e, Block{}, api.EWORN)
	if !d.Power() {
		t.Errorf("R3: Store with EWORN writes")
	}
	b, e = Load(d)
	holds(t, "P5.2: Load of the greatest Seq", b, e, Block{Seq: most, Gen: 1}, api.OK)
}

// begin makes a device with n blocks stored, and something else waiting where it is asked.
func begin(t *testing.T, n int, waits bool) (*flash.Dev, Block) {
	d := device(t, 4)
	var last Block
	for k := range n {
		last, _ = Store(d, Block{Epoch: uint64(k + 1), Clean: k%2 == 0, Image: k})
	}
	if waits {
		d.Write(2, []byte{1})
		d.Write(3, []byte{2})
	}
	return d, last
}

// crashes are the ways of a power that goes and comes: every kind of pick, more picks than pages, none.
func crashes() []func(d *flash.Dev) {
	l := []func(d *flash.Dev){
		func(d *flash.Dev) { d.On() },
		func(d *flash.Dev) { d.Crash(nil); d.On() },
		func(d *flash.Dev) { d.Crash(nil); d.Crash([]byte{2, 2, 2}); d.On() },
	}
	for pick := range 256 {
		l = append(l, func(d *flash.Dev) { d.Crash([]byte{byte(pick)}); d.On() })
	}
	for pick := range 27 {
		picks := []byte{byte(pick), byte(pick / 3), byte(pick / 9), 1}
		l = append(l, func(d *flash.Dev) { d.Crash(picks); d.On() })
	}
	return l
}

func TestCutAtEachStep(t *testing.T) {
	for n := range 5 {
		for step := 1; step <= 3; step++ {
			for i, crash := range crashes() {
				d, ahead := begin(t, n, i%2 == 0)
				next := Block{Seq: uint64(n + 1), Epoch: 100, Horizon: 7}
				d.Arm(step)
				b, e := Store(d, Block{Seq: 9, Epoch: 100, Horizon: 7})
				what := fmt.Sprintf("P5.3: %d stored, cut at step %d, crash %d", n, step, i)
				if step <= 2 {
					holds(t, what+": Store", b, e, Block{}, api.EOFF)
				} else {
					holds(t, what+": Store", b, e, next, api.OK)
				}
				crash(d)
				got, f := Load(d)
				if cut := step <= 2 && got == ahead && (f == api.OK) == (n > 0); !cut {
					holds(t, what+": Load", got, f, next, api.OK)
				}
				if step == 1 || f == api.ENONE {
					holds(t, what+": Load with nothing written", got, f, ahead, f)
				}
				again, g := Store(d, Block{Gen: 6})
				holds(t, what+": Store behind it", again, g, Block{Seq: got.Seq + 1, Gen: 6}, api.OK)
			}
		}
	}
}

// What the picks do with the page that waits is seen: gone, there, or torn with the block ahead still told.
func TestCutAheadOfFlush(t *testing.T) {
	for n := range 4 {
		for pick := range 3 {
			d, ahead := begin(t, n, false)
			d.Arm(2)
			Store(d, Block{Epoch: 100})
			want, f := ahead, api.OK
			if n == 0 {
				f = api.ENONE
			}
			if pick == 1 {
				want, f = Block{Seq: uint64(n + 1), Epoch: 100}, api.OK
			}
			d.Crash([]byte{byte(pick)})
			d.On()
			b, e := Load(d)
			holds(t, fmt.Sprintf("P5.3: %d stored, cut ahead of Flush, pick %d", n, pick), b, e, want, f)
		}
	}
}

// A long run of stores and cuts, with crashes while nothing is stored too: what was answered is told.
func TestManyCuts(t *testing.T) {
	r := rand.New(rand.NewSource(55))
	for range 300 {
		d := device(t, 2+r.Intn(3))
		var truth Block
		for step := range 60 {
			d.Arm(r.Intn(5))
			given := Block{Seq: r.Uint64(), Epoch: r.Uint64(), Reserved: r.Uint64(), Horizon: r.Uint64(), Gen: r.Uint64(), Clean: r.Intn(2) == 0, Image: images()[r.Intn(len(images()))]}
			next := kept(given)
			next.Seq = truth.Seq + 1
			b, e := Store(d, given)
			what := fmt.Sprintf("P5.3: step %d: %+v behind %+v", step, given, truth)
			if e == api.OK {
				holds(t, what+": Store", b, e, next, api.OK)
				truth = next
			} else {
				holds(t, what+": Store", b, e, Block{}, api.EOFF)
			}
			if e != api.OK || r.Intn(2) == 0 {
				d.Crash([]byte{byte(r.Intn(256)), byte(r.Intn(256))})
				d.On()
			}
			got, f := Load(d)
			if e != api.OK && got == next {
				truth = next
			}
			want := api.OK
			if truth.Seq == 0 {
				want = api.ENONE
			}
			holds(t, what+": Load", got, f, truth, want)
		}
	}
}
