package engine

import (
	"bytes"
	"encoding/binary"
	"fmt"
	"hash/fnv"
	"math"
	"slices"
	"strings"
	"testing"

	"cellaret/api"
	"cellaret/bloom"
	"cellaret/flash"
	"cellaret/rec"
	"cellaret/super"
)

// hash is a key's number, by chapter 1.
func hash(key string) uint64 {
	h := fnv.New64a()
	h.Write([]byte(key))
	return h.Sum64()
}

// thing is an item of the log with a name of its own: so that two items that are the same are two things.
type thing struct {
	id int
	x  api.Item
}

// shelf is a region that counts; with the number 0 there is none.
type shelf struct {
	number uint64
	things []thing
}

// plain is an engine by the words of chapters 5, 6, 8, 9 and 10, on plain lists and a device of its own.
type plain struct {
	d       *flash.Dev
	g       Geometry
	losses  int
	block   super.Block
	last    uint64
	marks   map[uint64]uint64
	used    int // pages of the journal
	gen     uint64
	filters []*bloom.Filter
	shelves []shelf // place by place
	number  uint64
	open    []thing
	has     map[string]int // by key: which thing
	ids     int
	adrift  map[string]api.Item // what a Seal that was cut off let go
}

func fit(g Geometry) bool {
	return g.Journal >= 1 && g.Journal <= 64 && g.Buckets >= 1 && g.Buckets <= 64 && g.Regions >= 1 && g.Regions <= 16 && g.Image >= 0 && g.Image <= 256
}

// newest is the block that the pages 0 and 1 tell; one of noughts, if there is none.
func newest(d *flash.Dev) super.Block {
	var best super.Block
	found := false
	for at := range 2 {
		b, e := d.Read(at)
		if e != api.OK {
			continue
		}
		if x, e := super.Decode(b); e == api.OK && (!found || x.Seq > best.Seq) {
			best, found = x, true
		}
	}
	return best
}

func openPlain(d *flash.Dev, g Geometry) (*plain, super.Block, api.Errno) {
	if !fit(g) || d.Pages() < 2+g.Journal+g.Buckets+4*g.Regions+g.Image {
		return nil, super.Block{}, api.EARG
	}
	if !d.Power() {
		return nil, super.Block{}, api.EOFF
	}
	ahead := newest(d)
	p := &plain{d: d, g: g, losses: d.Losses(), block: ahead, last: ahead.Reserved, gen: ahead.Gen, marks: map[uint64]uint64{}, has: map[string]int{}}
	p.readJournal()
	p.readBuckets()
	p.readLog()
	b := ahead
	b.Epoch, b.Clean = b.Epoch+1, false
	if e := p.store(b); e != api.OK {
		return nil, super.Block{}, e
	}
	return p, ahead, api.OK
}

func (p *plain) done() bool { return p.d.Losses() != p.losses }

func (p *plain) store(b super.Block) api.Errno {
	if p.done() {
		return api.EOFF
	}
	seq := newest(p.d).Seq
	if seq == math.MaxUint64 {
		return api.EWORN
	}
	b.Seq = seq + 1
	if b.Image < 0 || b.Image > math.MaxInt32 {
		b.Image = 0
	}
	if e := p.d.Write(int(b.Seq%2), super.Encode(b)); e != api.OK {
		return e
	}
	if e := p.d.Flush(); e != api.OK {
		return e
	}
	p.block = b
	return api.OK
}

func (p *plain) version() (uint64, api.Errno) {
	if p.last == math.MaxUint64 {
		return 0, api.EWORN
	}
	if p.last == p.block.Reserved {
		b := p.block
		if b.Reserved > math.MaxUint64-64 {
			b.Reserved = math.MaxUint64
		} else {
			b.Reserved += 64
		}
		if e := p.store(b); e != api.OK {
			return 0, e
		}
	}
	p.last++
	return p.last, api.OK
}

// sheet is a page of the journal.
func sheet(gen uint64, keys []uint64, version uint64) []byte {
	b := []byte("TOMB")
	b = binary.LittleEndian.AppendUint32(b, uint32(len(keys)))
	b = binary.LittleEndian.AppendUint64(b, gen)
	for _, key := range keys {
		b = binary.LittleEndian.AppendUint64(b, key)
		b = binary.LittleEndian.AppendUint64(b, version)
	}
	return b
}

func (p *plain) readJournal() {
	for ; p.used < p.g.Journal; p.used++ {
		b, e := p.d.Read(2 + p.used)
		if e == api.ETORN {
			continue
		}
		if e != api.OK || string(b[:4]) != "TOMB" || binary.LittleEndian.Uint64(b[8:]) != p.gen {
			return
		}
		n := int(binary.LittleEndian.Uint32(b[4:]))
		if n > 23 {
			return
		}
		for k := range n {
			p.mark(binary.LittleEndian.Uint64(b[16+16*k:]), binary.LittleEndian.Uint64(b[24+16*k:]))
		}
	}
}

func (p *plain) mark(key, version uint64) { p.marks[key] = max(p.marks[key], version) }

// add adds marks of at most 23 keys to the journal.
func (p *plain) add(keys []uint64, version uint64) api.Errno {
	if p.done() {
		return api.EOFF
	}
	if p.used == p.g.Journal {
		return api.EFULL
	}
	if e := p.d.Write(2+p.used, sheet(p.gen, keys, version)); e != api.OK {
		return e
	}
	p.used++
	if e := p.d.Flush(); e != api.OK {
		return e
	}
	for _, key := range keys {
		p.mark(key, version)
	}
	return api.OK
}

// bucket is the page of a key.
func (p *plain) bucket(key string) int { return 2 + p.g.Journal + int(hash(key)%uint64(p.g.Buckets)) }

// list is what stands on a bucket's page.
func (p *plain) list(page int) []api.Item {
	b, e := p.d.Read(page)
	if e != api.OK {
		return nil
	}
	l, e := rec.List(b)
	if e != api.OK {
		return nil
	}
	return l
}

func (p *plain) readBuckets() {
	for at := range p.g.Buckets {
		f, _ := bloom.New(256, 3)
		for _, x := range p.list(2 + p.g.Journal + at) {
			f.Add(x.Key)
		}
		p.filters = append(p.filters, f)
	}
}

func (p *plain) filter(key string) *bloom.Filter { return p.filters[p.bucket(key)-2-p.g.Journal] }

// smallPut tells how many were left out.
func (p *plain) smallPut(x api.Item) (int, api.Errno) {
	if p.done() {
		return 0, api.EOFF
	}
	page := p.bucket(x.Key)
	l := slices.DeleteFunc(p.list(page), func(y api.Item) bool { return y.Key == x.Key })
	l = append(l, x)
	out := 0
	for sizeOf(l[out:]) > 384 {
		out++
	}
	b, _ := rec.Lay(l[out:], 384)
	if e := p.d.Write(page, b); e != api.OK {
		return 0, e
	}
	p.filter(x.Key).Add(x.Key)
	return out, api.OK
}

func sizeOf(l []api.Item) int {
	n := 0
	for _, x := range l {
		n += 32 + len(x.Key) + len(x.Value)
	}
	return n
}

func (p *plain) smallDrop(key string) api.Errno {
	page := p.bucket(key)
	l := p.list(page)
	rest := slices.DeleteFunc(slices.Clone(l), func(y api.Item) bool { return y.Key == key })
	if len(rest) == len(l) {
		return api.ENONE
	}
	b, _ := rec.Lay(rest, 384)
	return p.d.Write(page, b)
}

func (p *plain) smallGet(key string) (api.Item, api.Errno) {
	if !p.filter(key).May(key) {
		return api.Item{}, api.ENONE
	}
	if p.done() {
		return api.Item{}, api.EOFF
	}
	for _, x := range p.list(p.bucket(key)) {
		if x.Key == key {
			return x, api.OK
		}
	}
	return api.Item{}, api.ENONE
}

// logPage is a page of the log.
func (p *plain) logPage(place, at int) int { return 2 + p.g.Journal + p.g.Buckets + 4*place + at }

func (p *plain) readLog() {
	for place := range p.g.Regions {
		p.shelves = append(p.shelves, p.readRegion(place))
	}
	for _, s := range p.rising() {
		for _, y := range s.things {
			p.has[y.x.Key] = y.id
		}
	}
}

// readRegion reads one region's pages: its number is told, whether it counts or not.
func (p *plain) readRegion(place int) shelf {
	var numbers []uint64
	var content []byte
	places := true
	for at := range 4 {
		b, e := p.d.Read(p.logPage(place, at))
		if e != api.OK || b[0] != 82 || b[1] != 71 || b[3] != 0 || binary.LittleEndian.Uint32(b[4:]) > 368 {
			continue
		}
		places = places && int(b[2]) == at
		numbers = append(numbers, binary.LittleEndian.Uint64(b[8:]))
		content = append(content, b[16:16+binary.LittleEndian.Uint32(b[4:])]...)
	}
	if len(numbers) == 0 {
		return shelf{}
	}
	p.number = max(p.number, slices.Max(numbers))
	items, e := rec.List(content)
	if len(numbers) < 4 || slices.Min(numbers) != slices.Max(numbers) || !places || e != api.OK {
		return shelf{}
	}
	return shelf{numbers[0], p.named(items...)}
}

func (p *plain) named(l ...api.Item) []thing {
	var out []thing
	for _, x := range l {
		p.ids++
		out = append(out, thing{p.ids, x})
	}
	return out
}

// rising are the regions that count, by rising numbers.
func (p *plain) rising() []shelf {
	l := slices.DeleteFunc(slices.Clone(p.shelves), func(s shelf) bool { return s.number == 0 })
	slices.SortStableFunc(l, func(a, b shelf) int {
		if a.number < b.number {
			return -1
		}
		return int(min(a.number-b.number, 1))
	})
	return l
}

// held are those of things that their keys have.
func (p *plain) held(l []thing) []api.Item {
	var out []api.Item
	for _, y := range l {
		if p.has[y.x.Key] == y.id {
			out = append(out, y.x)
		}
	}
	return out
}

func (p *plain) logItems() []api.Item {
	var all []api.Item
	for _, s := range p.rising() {
		all = append(all, p.held(s.things)...)
	}
	return append(all, p.held(p.open)...)
}

func (p *plain) logGet(key string) api.Item {
	for _, x := range p.logItems() {
		if x.Key == key {
			return x
		}
	}
	return api.Item{}
}

// content is what the open region's records are.
func (p *plain) content() []byte {
	var b []byte
	for _, y := range p.open {
		r, _ := rec.Put(y.x)
		b = append(b, r...)
	}
	return b
}

func (p *plain) seal() api.Errno {
	switch {
	case len(p.open) == 0:
		return api.OK
	case p.done():
		return api.EOFF
	case p.number == math.MaxUint64:
		return api.EWORN
	}
	n := p.number + 1
	place := int(n % uint64(p.g.Regions))
	lost := p.held(p.shelves[place].things)
	for _, x := range lost {
		delete(p.has, x.Key)
	}
	p.shelves[place] = shelf{}
	if e := p.writeRegion(place, n); e != api.OK {
		p.adrift = map[string]api.Item{}
		for _, x := range lost {
			p.adrift[x.Key] = x
		}
		return e
	}
	p.number, p.shelves[place], p.open = n, shelf{n, p.open}, nil
	return api.OK
}

func (p *plain) writeRegion(place int, n uint64) api.Errno {
	content := p.content()
	for at := range 4 {
		b := content[min(368*at, len(content)):min(368*at+368, len(content))]
		page := append([]byte{82, 71, byte(at), 0}, binary.LittleEndian.AppendUint32(nil, uint32(len(b)))...)
		page = binary.LittleEndian.AppendUint64(page, n)
		if e := p.d.Write(p.logPage(place, at), append(page, b...)); e != api.OK {
			return e
		}
	}
	return p.d.Flush()
}

func (p *plain) logPut(x api.Item) api.Errno {
	if len(p.content())+sizeOf([]api.Item{x}) > 1472 {
		if e := p.seal(); e != api.OK {
			return e
		}
	}
	p.open = append(p.open, p.named(x)...)
	p.has[x.Key] = p.ids
	return api.OK
}

func (p *plain) counts(x api.Item) bool {
	upTo, ok := p.marks[hash(x.Key)]
	return x.Version > p.block.Horizon && !(ok && x.Version <= upTo)
}

func (p *plain) put(x api.Item) api.Errno {
	size := sizeOf([]api.Item{x})
	if len(x.Key) < 1 || len(x.Key) > 250 || len(x.Value) > 1024 || x.Version == 0 {
		return api.EARG
	}
	if size <= 120 {
		out, e := p.smallPut(x)
		if e == api.OK && out > 0 {
			e = p.d.Flush()
		}
		if e == api.OK {
			delete(p.has, x.Key)
		}
		return e
	}
	may := p.filter(x.Key).May(x.Key)
	if may && p.done() {
		return api.EOFF
	}
	if e := p.logPut(x); e != api.OK || !may {
		return e
	}
	if e := p.smallDrop(x.Key); e != api.ENONE {
		return e
	}
	return api.OK
}

func (p *plain) get(key string) (api.Item, api.Errno) {
	small, e := p.smallGet(key)
	if e == api.EOFF {
		return api.Item{}, e
	}
	var best api.Item
	for _, x := range []api.Item{small, p.logGet(key)} {
		if p.counts(x) && x.Version > best.Version {
			best = x
		}
	}
	if best.Version > 0 {
		return best, api.OK
	}
	if p.counts(p.adrift[key]) {
		return api.Item{}, api.EOFF // it may come back
	}
	return api.Item{}, api.ENONE
}

func (p *plain) may(key string) bool {
	_, adrift := p.adrift[key]
	_, has := p.has[key]
	return adrift || has || p.filter(key).May(key)
}

func (p *plain) items() []api.Item {
	if p.done() {
		return nil
	}
	var all []api.Item
	for at := range p.g.Buckets {
		all = append(all, p.list(2+p.g.Journal+at)...)
	}
	return slices.DeleteFunc(append(all, p.logItems()...), func(x api.Item) bool {
		y, e := p.get(x.Key)
		return e != api.OK || x != y
	})
}

func (p *plain) remove(keys ...string) api.Errno {
	var numbers []uint64
	for i, key := range keys {
		if p.may(key) && !slices.Contains(keys[:i], key) {
			numbers = append(numbers, hash(key))
		}
	}
	for len(numbers) > 0 {
		n := min(23, len(numbers))
		switch e := p.add(numbers[:n], p.last); e {
		case api.OK:
		case api.EFULL:
			return p.wipe()
		default:
			return e
		}
		numbers = numbers[n:]
	}
	return api.OK
}

func (p *plain) wipe() api.Errno {
	b := p.block
	b.Horizon, b.Gen = p.last, b.Gen+1
	if e := p.store(b); e != api.OK {
		return e
	}
	p.gen, p.used, p.marks = b.Gen, 0, map[uint64]uint64{}
	return api.OK
}

func (p *plain) settle() api.Errno {
	if p.done() {
		return api.EOFF
	}
	if e := p.seal(); e != api.OK {
		return e
	}
	return p.d.Flush()
}

// differ tells whether calls could tell two devices apart, by all but how often they were read.
func differ(a, b *flash.Dev) bool {
	a, b = a.Copy(), b.Copy()
	s, t := a.Stat(), b.Stat()
	s.Reads, t.Reads = 0, 0
	if s != t || a.Pages() != b.Pages() || a.Power() != b.Power() || a.Losses() != b.Losses() || !slices.Equal(a.Waiting(), b.Waiting()) || armed(a) != armed(b) {
		return true
	}
	for range 2 {
		for at := range a.Pages() {
			p, e := a.Read(at)
			q, f := b.Read(at)
			if e != f || !bytes.Equal(p, q) {
				return true
			}
		}
		a.On()
		b.On()
	}
	return false
}

// armed tells how many steps a device has till its power goes, of those that a test arms.
func armed(d *flash.Dev) int {
	n := 0
	for c := d.Copy(); c.Power() && n < 20; n++ {
		c.Flush()
	}
	return n
}

// pair is an engine, and what it should be: each on a device of its own.
type pair struct {
	t    *testing.T
	d    *flash.Dev
	e    *Engine
	p    *plain
	ever map[api.Item]bool // all that was put, or was to be
}

func device(t *testing.T, pages int) *flash.Dev {
	t.Helper()
	d, e := flash.New(pages)
	if e != api.OK {
		t.Fatalf("P3.1: New(%d): %d", pages, e)
	}
	return d
}

// begin opens an engine on a new device.
func begin(t *testing.T, g Geometry) *pair {
	t.Helper()
	return beginOn(t, "a new device", device(t, Pages(g)), g)
}

// beginOn opens an engine on a device, and a plain one on a copy of it.
func beginOn(t *testing.T, what string, d *flash.Dev, g Geometry) *pair {
	t.Helper()
	x := &pair{t: t, d: d, p: &plain{d: d.Copy(), g: g}, ever: map[api.Item]bool{}}
	if e := x.open(what); e != api.OK {
		t.Fatalf("P10.1: %s: Open(%+v) of %d pages: %d", what, g, d.Pages(), e)
	}
	return x
}

// open opens both anew; with an error the old ones stay.
func (x *pair) open(what string) api.Errno {
	x.t.Helper()
	p, want, f := openPlain(x.p.d, x.p.g)
	n, ahead, e := Open(x.d, x.p.g)
	if e != f || ahead != want || (n == nil) != (e != api.OK) {
		x.t.Fatalf("P10.1: %s: Open: %+v, %d, want %+v, %d", what, ahead, e, want, f)
	}
	if e == api.OK {
		x.e, x.p = n, p
	}
	x.same("P10.1: " + what + ": Open")
	return e
}

// crash lets the power of both go and come, and opens what is there then.
func (x *pair) crash(what string, picks ...byte) {
	x.t.Helper()
	x.both(func(d *flash.Dev) { d.Crash(picks); d.On() })
	if e := x.open(what); e != api.OK {
		x.t.Fatalf("P10.1: %s: Open behind a crash: %d", what, e)
	}
	x.holds(what)
}

func (x *pair) both(f func(d *flash.Dev)) {
	f(x.d)
	f(x.p.d)
}

// same holds the one device against the other.
func (x *pair) same(what string) {
	x.t.Helper()
	if differ(x.d, x.p.d) {
		x.t.Errorf("%s: the device is not as it should be: Stat %v, want %v; %v wait, want %v; losses %d, want %d", what, x.d.Stat(), x.p.d.Stat(), x.d.Waiting(), x.p.d.Waiting(), x.d.Losses(), x.p.d.Losses())
	}
}

// answers holds an error against the one that is asked, and the devices against each other.
func (x *pair) answers(what string, e, want api.Errno) api.Errno {
	x.t.Helper()
	if e != want {
		x.t.Errorf("%s: %d, want %d", what, e, want)
	}
	if x.e.Block() != x.p.block {
		x.t.Errorf("%s: Block %+v, want %+v", what, x.e.Block(), x.p.block)
	}
	x.same(what)
	return e
}

func (x *pair) put(what string, y api.Item) api.Errno {
	x.t.Helper()
	x.ever[y] = true
	ahead := x.d.Stat()
	touches := x.e.Touches(y)
	if x.d.Stat() != ahead {
		x.t.Errorf("P10.3: %s: Touches(%s): the device is touched", what, short(y))
	}
	e := x.e.Put(y)
	if want := touched(x.d, ahead, e); touches != want {
		x.t.Errorf("P10.3: %s: Touches(%s): %t, want %t", what, short(y), touches, want)
	}
	return x.answers(fmt.Sprintf("P10.3: %s: Put(%s)", what, short(y)), e, x.p.put(y))
}

// touched tells whether a Put read, wrote or flushed the device, or couldn't do so. Where the log is worn
// it is none of these that fails, but what comes ahead of them.
func touched(d *flash.Dev, ahead flash.Stat, e api.Errno) bool {
	return d.Stat() != ahead || e == api.EOFF || e == api.EWORN
}

func (x *pair) set(what string, b super.Block) api.Errno {
	x.t.Helper()
	return x.answers(fmt.Sprintf("P10.1: %s: Set(%+v)", what, b), x.e.Set(b), x.p.store(b))
}

func (x *pair) version(what string) (uint64, api.Errno) {
	x.t.Helper()
	want, f := x.p.version()
	v, e := x.e.Version()
	if v != want {
		x.t.Errorf("P10.2: %s: Version: %d, want %d", what, v, want)
	}
	return v, x.answers("P10.2: "+what+": Version", e, f)
}

func (x *pair) remove(what string, keys ...string) api.Errno {
	x.t.Helper()
	return x.answers(fmt.Sprintf("P10.4: %s: Remove(%.80q)", what, keys), x.e.Remove(keys...), x.p.remove(keys...))
}

func (x *pair) wipe(what string) api.Errno {
	x.t.Helper()
	return x.answers("P10.4: "+what+": Wipe", x.e.Wipe(), x.p.wipe())
}

func (x *pair) settle(what string) api.Errno {
	x.t.Helper()
	return x.answers("P10.4: "+what+": Settle", x.e.Settle(), x.p.settle())
}

// strange are keys that no test puts.
func strange() []string {
	return []string{"", "never", "\x00", "\xff\xfe", "日本語", strings.Repeat("n", 250), strings.Repeat("n", 251), strings.Repeat("n", 4000)}
}

// holds holds what an engine tells against what it should: nothing is written for it.
func (x *pair) holds(what string, keys ...string) {
	x.t.Helper()
	ahead := x.d.Copy()
	items, want := x.e.Items(), x.p.items()
	if !slices.Equal(items, want) {
		x.t.Errorf("P10.3: %s: Items: %s, want %s", what, short(items...), short(want...))
	}
	keys = append(slices.Clone(keys), strange()...)
	for _, y := range append(want, x.p.logItems()...) {
		keys = append(keys, y.Key)
	}
	for key := range x.p.adrift {
		keys = append(keys, key)
	}
	slices.Sort(keys)
	for _, key := range slices.Compact(keys) {
		want, f := x.p.get(key)
		if y, e := x.e.Get(key); y != want || e != f {
			x.t.Errorf("P10.3: %s: Get(%.20q): %s, %d, want %s, %d", what, key, short(y), e, short(want), f)
		}
		if x.e.May(key) != x.p.may(key) {
			x.t.Errorf("P10.3: %s: May(%.20q): %t", what, key, x.e.May(key))
		}
	}
	if x.e.Block() != x.p.block {
		x.t.Errorf("P10.1: %s: Block: %+v, want %+v", what, x.e.Block(), x.p.block)
	}
	if differ(x.d, ahead) {
		x.t.Errorf("R3: %s: the device is changed by what tells alone", what)
	}
}

// short tells items so that a message can be read.
func short(l ...api.Item) string {
	var out []string
	for _, x := range l {
		out = append(out, fmt.Sprintf("%.20q %d+%d v%d", x.Key, len(x.Key), len(x.Value), x.Version))
	}
	return "[" + strings.Join(out, ", ") + "]"
}

// names tells items by their keys and versions.
func names(l []api.Item) string {
	var out []string
	for _, x := range l {
		out = append(out, fmt.Sprint(x.Key, x.Version))
	}
	return strings.Join(out, " ")
}

// sized is an item whose record has so many bytes.
func sized(key string, size int, version uint64) api.Item {
	return api.Item{Key: key, Value: strings.Repeat("v", size-32-len(key)), Flags: uint32(version) << 7, Exp: -int64(version), Version: version}
}

// keysOf are n keys of a bucket.
func keysOf(n, bucket, pages int) []string {
	var l []string
	for i := 0; len(l) < n; i++ {
		if key := fmt.Sprint("k", i); int(hash(key)%uint64(pages)) == bucket {
			l = append(l, key)
		}
	}
	return l
}
