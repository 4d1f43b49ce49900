package hybrid

import (
	"bytes"
	"fmt"
	"math"
	"slices"
	"strings"
	"testing"

	"cellaret/api"
	"cellaret/dram"
	"cellaret/engine"
	"cellaret/flash"
	"cellaret/image"
)

// plain is a store by the chapter's words, on the layers below it and on a device of its own.
type plain struct {
	d      *flash.Dev
	g      engine.Geometry
	pages  int
	losses int
	lost   int
	last   uint64 // the last version, or Reserved as Open found it
	m      *dram.Cache
	e      *engine.Engine
}

func dead(x api.Item, now int64) bool { return x.Exp != 0 && x.Exp <= now }

// behind is the first page behind the regions.
func behind(g engine.Geometry) int { return 2 + g.Journal + g.Buckets + 4*g.Regions }

func openPlain(d *flash.Dev, g engine.Geometry, pages int, now int64) (*plain, api.Errno) {
	m, e := dram.New(pages)
	if e != api.OK {
		return nil, e
	}
	n, ahead, e := engine.Open(d, g)
	if e != api.OK {
		return nil, e
	}
	p := &plain{d: d, g: g, pages: pages, losses: d.Losses(), last: ahead.Reserved, m: m, e: n}
	if !ahead.Clean {
		return p, api.OK
	}
	l, e := image.Load(d, behind(g), ahead.Image)
	if e != api.OK {
		return p, api.OK
	}
	for k := len(l) - 1; k >= 0; k-- {
		if !dead(l[k], now) && l[k].Version > ahead.Horizon && p.put(l[k], false, now) == api.EOFF {
			return nil, api.EOFF
		}
	}
	return p, api.OK
}

func (p *plain) done() bool { return p.d.Losses() != p.losses }

func (p *plain) put(x api.Item, clean bool, now int64) api.Errno {
	gone, _ := p.m.Put(x, clean)
	off := false
	for _, y := range gone {
		if y.Clean || dead(y.Item, now) {
			continue
		}
		switch p.e.Put(y.Item) {
		case api.OK:
		case api.EOFF:
			off = true
			fallthrough
		default:
			p.lost++
		}
	}
	if off {
		return api.EOFF
	}
	return api.OK
}

// touches tells whether put would read, write or flush the device.
func (p *plain) touches(x api.Item, now int64) bool {
	var l []api.Item
	for _, y := range p.m.Going(x) {
		if !y.Clean && !dead(y.Item, now) {
			l = append(l, y.Item)
		}
	}
	return p.e.Touches(l...)
}

// setTouches tells it of set.
func (p *plain) setTouches(x api.Item, now int64) bool {
	if p.e.May(x.Key) {
		return true
	}
	x.Version = 1
	return p.last < math.MaxUint64 && (p.last == p.e.Block().Reserved || p.touches(x, now))
}

func (p *plain) get(key string, now int64) (api.Item, bool, api.Errno) {
	had, inMemory := p.m.Peek(key)
	if inMemory && !dead(had.Item, now) {
		x, ok := p.m.Get(key, now)
		return x, ok, api.OK
	}
	if inMemory {
		if p.done() && p.e.May(key) {
			return api.Item{}, false, api.EOFF
		}
		p.m.Get(key, now)
		if e := p.e.Remove(key); e != api.OK {
			return api.Item{}, false, e
		}
	}
	x, e := p.e.Get(key)
	if e == api.EOFF {
		return api.Item{}, false, e
	}
	if e == api.ENONE || dead(x, now) {
		return api.Item{}, false, api.OK
	}
	if p.done() && p.touches(x, now) || p.put(x, true, now) == api.EOFF {
		return api.Item{}, false, api.EOFF
	}
	return x, true, api.OK
}

func (p *plain) set(x api.Item, now int64) (uint64, api.Errno) {
	if len(x.Key) < 1 || len(x.Key) > 250 || len(x.Value) > 1024 {
		return 0, api.EARG
	}
	if p.done() && p.setTouches(x, now) {
		return 0, api.EOFF
	}
	if p.e.May(x.Key) {
		if e := p.e.Remove(x.Key); e != api.OK {
			return 0, e
		}
	}
	v, e := p.e.Version()
	if e != api.OK {
		p.m.Delete(x.Key)
		return 0, e
	}
	x.Version, p.last = v, v
	if e := p.put(x, false, now); e != api.OK {
		return 0, e
	}
	return v, api.OK
}

func (p *plain) remove(key string, now int64) (bool, api.Errno) {
	had, ok := p.m.Peek(key)
	if !ok {
		x, e := p.e.Get(key)
		if e == api.EOFF {
			return false, e
		}
		had.Item, ok = x, e == api.OK
	}
	if p.e.May(key) {
		if e := p.e.Remove(key); e != api.OK {
			return false, e
		}
	}
	p.m.Delete(key)
	return ok && !dead(had.Item, now), api.OK
}

func (p *plain) wipe() api.Errno {
	e := p.e.Wipe()
	if e == api.OK {
		p.m.Clear()
	}
	return e
}

func (p *plain) shutdown() api.Errno {
	if e := p.e.Settle(); e != api.OK {
		return e
	}
	var l []api.Item
	for _, x := range p.m.Items() {
		l = append(l, x.Item)
	}
	n, _, e := image.Dump(p.d, behind(p.g), p.g.Image, l)
	if e != api.OK {
		return e
	}
	b := p.e.Block()
	b.Clean = true
	b.Image = n
	return p.e.Set(b)
}

// differ tells whether calls could tell two devices apart, by all but how often they were read.
func differ(a, b *flash.Dev) bool {
	a, b = a.Copy(), b.Copy()
	s, t := a.Stat(), b.Stat()
	s.Reads, t.Reads = 0, 0
	if s != t || a.Pages() != b.Pages() || a.Power() != b.Power() || a.Losses() != b.Losses() || !slices.Equal(a.Waiting(), b.Waiting()) || armed(a) != armed(b) {
		return true
	}
	for range 2 {
		for at := range a.Pages() {
			p, e := a.Read(at)
			q, f := b.Read(at)
			if e != f || !bytes.Equal(p, q) {
				return true
			}
		}
		a.On()
		b.On()
	}
	return false
}

// armed tells how many steps a device has till its power goes, of those that a test arms.
func armed(d *flash.Dev) int {
	n := 0
	for c := d.Copy(); c.Power() && n < 40; n++ {
		c.Flush()
	}
	return n
}

// books is the plain map: what Set told last of each key. It knows nothing of memory and device.
type books struct {
	last map[string]api.Item
	// kept is what was handed to a Set that had an error: it may be told as long as the store is not opened
	// anew, with a version that nobody was told.
	kept map[string]api.Item
	top  uint64 // the greatest version that was told
}

// fits tells whether an item may be told.
func (b *books) fits(x api.Item) bool {
	if x == b.last[x.Key] {
		return true
	}
	y, ok := b.kept[x.Key]
	y.Version = x.Version
	return ok && x == y && x.Version > b.last[x.Key].Version
}

func (b *books) gone(key string) {
	delete(b.last, key)
	delete(b.kept, key)
}

// pair is a store, what it should be, each on a device of its own, and the plain map.
type pair struct {
	t *testing.T
	d *flash.Dev
	s *Store
	p *plain
	b books
}

func shape(journal, buckets, regions, image int) engine.Geometry {
	return engine.Geometry{Journal: journal, Buckets: buckets, Regions: regions, Image: image}
}

func little() engine.Geometry { return shape(4, 2, 2, 8) }

// roomy has an image for all that some pages of memory hold.
func roomy() engine.Geometry { return shape(4, 2, 2, 24) }

func device(t *testing.T, pages int) *flash.Dev {
	t.Helper()
	d, e := flash.New(pages)
	if e != api.OK {
		t.Fatalf("P3.1: New(%d): %d", pages, e)
	}
	return d
}

// begin opens a store on a new device of the little geometry.
func begin(t *testing.T, pages int) *pair {
	t.Helper()
	return beginOn(t, device(t, engine.Pages(little())), little(), pages)
}

// beginRoomy opens one on a new device of the roomy geometry.
func beginRoomy(t *testing.T, pages int) *pair {
	t.Helper()
	return beginOn(t, device(t, engine.Pages(roomy())), roomy(), pages)
}

// beginOn opens a store on a device, and a plain one on a copy of it.
func beginOn(t *testing.T, d *flash.Dev, g engine.Geometry, pages int) *pair {
	t.Helper()
	x := &pair{t: t, d: d, p: &plain{d: d.Copy(), g: g}}
	x.b = books{last: map[string]api.Item{}, kept: map[string]api.Item{}}
	if e := x.open(pages, 0); e != api.OK {
		t.Fatalf("P16.1: Open(%+v, %d) of %d pages: %d", g, pages, d.Pages(), e)
	}
	return x
}

// open opens both anew; with an error the old ones stay.
func (x *pair) open(pages int, now int64) api.Errno {
	x.t.Helper()
	p, want := openPlain(x.p.d, x.p.g, pages, now)
	s, e := Open(x.d, x.p.g, pages, now)
	if e != want || (s == nil) != (e != api.OK) {
		x.t.Fatalf("P16.1: Open(%d, %d): %d, want %d", pages, now, e, want)
	}
	if e == api.OK {
		x.s, x.p = s, p
		x.b.kept = map[string]api.Item{}
	}
	x.same(fmt.Sprintf("P16.1: Open(%d, %d)", pages, now))
	return e
}

// again ends a store cleanly, and opens it anew.
func (x *pair) again(pages int, now int64) {
	x.t.Helper()
	if e := x.shutdown(); e != api.OK {
		x.t.Fatalf("P16.4: Shutdown: %d", e)
	}
	if e := x.open(pages, now); e != api.OK {
		x.t.Fatalf("P16.1: Open behind a clean end: %d", e)
	}
}

func (x *pair) both(f func(d *flash.Dev)) {
	f(x.d)
	f(x.p.d)
}

func (x *pair) arm(n int) { x.both(func(d *flash.Dev) { d.Arm(n) }) }

// crash lets the power of both go and come, and opens what is there then.
func (x *pair) crash(pages int, now int64, picks ...byte) {
	x.t.Helper()
	x.both(func(d *flash.Dev) { d.Crash(picks); d.On() })
	if e := x.open(pages, now); e != api.OK {
		x.t.Fatalf("P16.1: Open behind a crash: %d", e)
	}
}

// same holds the one store and its device against the other, and what they hold against the plain map.
func (x *pair) same(what string) {
	x.t.Helper()
	m, l := x.s.Memory(), x.s.Device()
	if want := x.p.m.Items(); !slices.Equal(m, want) {
		x.t.Errorf("%s: Memory: %s, want %s", what, outs(m), outs(want))
	}
	if want := x.p.e.Items(); !slices.Equal(l, want) {
		x.t.Errorf("%s: Device: %s, want %s", what, names(l), names(want))
	}
	if x.s.Lost() != x.p.lost {
		x.t.Errorf("%s: Lost: %d, want %d", what, x.s.Lost(), x.p.lost)
	}
	if differ(x.d, x.p.d) {
		x.t.Errorf("%s: the device is not as it should be: Stat %v, want %v; %v wait, want %v; losses %d, want %d", what, x.d.Stat(), x.p.d.Stat(), x.d.Waiting(), x.p.d.Waiting(), x.d.Losses(), x.p.d.Losses())
	}
	x.booked(what, m, l)
}

// booked holds what memory and the device have against the plain map.
func (x *pair) booked(what string, m []dram.Out, l []api.Item) {
	x.t.Helper()
	once := map[string]int{}
	for _, y := range m {
		once[y.Item.Key]++
		if once[y.Item.Key] > 1 || !x.b.fits(y.Item) {
			x.t.Errorf("P16.5: %s: memory has %s, and Set told %s", what, names([]api.Item{y.Item}), names([]api.Item{x.b.last[y.Item.Key]}))
		}
	}
	for _, y := range l {
		if !x.b.fits(y) {
			x.t.Errorf("P16.5: %s: the device has %s, and Set told %s", what, names([]api.Item{y}), names([]api.Item{x.b.last[y.Key]}))
		}
	}
}

func (x *pair) get(key string, now int64) (api.Item, bool, api.Errno) {
	x.t.Helper()
	what := fmt.Sprintf("P16.2: Get(%.20q, %d)", key, now)
	_, inMemory := x.p.m.Peek(key)
	want, there, f := x.p.get(key, now)
	y, ok, e := x.s.Get(key, now)
	if y != want || ok != there || e != f {
		x.t.Errorf("%s: %s, %t, %d, want %s, %t, %d", what, names([]api.Item{y}), ok, e, names([]api.Item{want}), there, f)
	}
	if ok && (!x.b.fits(y) || dead(y, now) || y.Key != key) {
		x.t.Errorf("P16.5: %s: %s, and Set told %s", what, names([]api.Item{y}), names([]api.Item{x.b.last[key]}))
	}
	if e == api.OK && !ok && (inMemory || !dead(x.b.last[key], now)) {
		x.b.gone(key)
	}
	x.same(what)
	return y, ok, e
}

func (x *pair) set(y api.Item, now int64) (uint64, api.Errno) {
	x.t.Helper()
	what := fmt.Sprintf("P16.3: Set(%s, %d)", names([]api.Item{y}), now)
	done := x.p.done()
	want, f := x.p.set(y, now)
	v, e := x.s.Set(y, now)
	if v != want || e != f {
		x.t.Errorf("%s: %d, %d, want %d, %d", what, v, e, want, f)
	}
	switch {
	case e == api.OK && v <= x.b.top:
		x.t.Errorf("T3: %s: the version %d behind %d", what, v, x.b.top)
	case e == api.OK:
		x.b.gone(y.Key)
		y.Version, x.b.top = v, v
		x.b.last[y.Key] = y
	case e != api.EARG && !done:
		x.b.kept[y.Key] = y
	}
	x.same(what)
	return v, e
}

func (x *pair) remove(key string, now int64) (bool, api.Errno) {
	x.t.Helper()
	what := fmt.Sprintf("P16.3: Delete(%.20q, %d)", key, now)
	want, f := x.p.remove(key, now)
	was, e := x.s.Delete(key, now)
	if was != want || e != f {
		x.t.Errorf("%s: %t, %d, want %t, %d", what, was, e, want, f)
	}
	if e == api.OK {
		if y, ok := x.b.last[key]; was && (!ok || dead(y, now)) && x.b.kept[key].Key == "" {
			x.t.Errorf("P16.3: %s: it was there, and the map has none", what)
		}
		x.b.gone(key)
	}
	x.same(what)
	return was, e
}

func (x *pair) wipe() api.Errno {
	x.t.Helper()
	want := x.p.wipe()
	e := x.s.Wipe()
	if e != want {
		x.t.Errorf("P16.3: Wipe: %d, want %d", e, want)
	}
	if e == api.OK {
		clear(x.b.last)
		clear(x.b.kept)
	}
	x.same("P16.3: Wipe")
	return e
}

func (x *pair) shutdown() api.Errno {
	x.t.Helper()
	want := x.p.shutdown()
	e := x.s.Shutdown()
	if e != want {
		x.t.Errorf("P16.4: Shutdown: %d, want %d", e, want)
	}
	x.same("P16.4: Shutdown")
	return e
}

// outs tells what memory has, the head of each list first: by keys and versions, a * behind what is Clean.
func outs(l []dram.Out) string {
	var out []string
	for _, x := range l {
		y := fmt.Sprintf("%.20s%d", x.Item.Key, x.Item.Version)
		if x.Clean {
			y += "*"
		}
		out = append(out, y)
	}
	return strings.Join(out, " ")
}

// names tells items likewise.
func names(l []api.Item) string {
	var out []string
	for _, x := range l {
		out = append(out, fmt.Sprintf("%.20s%d", x.Key, x.Version))
	}
	return strings.Join(out, " ")
}

// sized is an item whose record has so many bytes.
func sized(key string, size int) api.Item {
	return api.Item{Key: key, Value: strings.Repeat("v", size-32-len(key)), Flags: uint32(size)}
}

// timed is one that is dead from a time on.
func timed(key string, size int, exp int64) api.Item {
	x := sized(key, size)
	x.Exp = exp
	return x
}

// sets sets items that must go well, at the time 0.
func (x *pair) sets(l ...api.Item) {
	x.t.Helper()
	for _, y := range l {
		if _, e := x.set(y, 0); e != api.OK {
			x.t.Fatalf("P16.3: Set(%s): %d", y.Key, e)
		}
	}
}

// stands holds what memory and the device have against what is asked.
func (x *pair) stands(what, memory, device string) {
	x.t.Helper()
	if m, l := outs(x.s.Memory()), names(x.s.Device()); m != memory || l != device {
		x.t.Errorf("%s: memory %q, device %q, want %q, %q", what, m, l, memory, device)
	}
}

// tells holds a Get against the version and the error that are asked; of none the version is 0.
func (x *pair) tells(key string, now int64, version uint64, e api.Errno) {
	x.t.Helper()
	y, ok, f := x.get(key, now)
	if y.Version != version || ok != (version > 0) || f != e {
		x.t.Errorf("P16.2: Get(%.20q, %d): %s, %t, %d, want version %d, %d", key, now, names([]api.Item{y}), ok, f, version, e)
	}
}

// deletes holds a Delete against what is asked.
func (x *pair) deletes(key string, now int64, was bool, e api.Errno) {
	x.t.Helper()
	if got, f := x.remove(key, now); got != was || f != e {
		x.t.Errorf("P16.3: Delete(%.20q, %d): %t, %d, want %t, %d", key, now, got, f, was, e)
	}
}

// refuses holds a Set against an error: no version is told beside it.
func (x *pair) refuses(y api.Item, now int64, e api.Errno) {
	x.t.Helper()
	if v, f := x.set(y, now); v != 0 || f != e {
		x.t.Errorf("P16.3: Set(%.20q): %d, %d, want %d alone", y.Key, v, f, e)
	}
}
