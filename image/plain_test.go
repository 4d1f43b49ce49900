package image

import (
	"encoding/binary"
	"fmt"
	"hash/crc32"
	"math/big"
	"slices"
	"testing"

	"cellaret/api"
	"cellaret/flash"
)

// sheet is a page of a plain device: blank, whole or torn, and what stands on a whole one.
type sheet struct {
	kind string
	text [384]byte
}

// plain is a device and its images by the chapters' words. It calls no layer.
type plain struct {
	now, last []sheet // last: what a page was when it last did not wait
	waits     []bool
	armed     int
	off       bool
}

func newPlain(pages int) *plain {
	blank := slices.Repeat([]sheet{{kind: "blank"}}, pages)
	return &plain{now: blank, last: slices.Clone(blank), waits: make([]bool, pages)}
}

func (w *plain) copied() *plain {
	c := *w
	c.now, c.last, c.waits = slices.Clone(w.now), slices.Clone(w.last), slices.Clone(w.waits)
	return &c
}

// gone tells whether the power is off for this call, or goes with it.
func (w *plain) gone() bool {
	if w.armed > 0 && !w.off {
		w.armed--
		w.off = w.armed == 0
	}
	return w.off
}

func (w *plain) put(page int, s sheet) api.Errno {
	if w.gone() {
		return api.EOFF
	}
	w.now[page], w.waits[page] = s, true
	return api.OK
}

func (w *plain) write(page int, b []byte) api.Errno {
	s := sheet{kind: "whole"}
	copy(s.text[:], b)
	return w.put(page, s)
}

func (w *plain) flush() api.Errno {
	if w.gone() {
		return api.EOFF
	}
	w.last, w.waits = slices.Clone(w.now), make([]bool, len(w.now))
	return api.OK
}

func (w *plain) crash(picks []byte) {
	k := 0
	for page, waits := range w.waits {
		if !waits {
			continue
		}
		pick := byte(0)
		if k < len(picks) {
			pick = picks[k] % 3
		}
		k++
		switch pick {
		case 0:
			w.now[page] = w.last[page]
		case 2:
			w.now[page] = sheet{kind: "torn"}
		}
	}
	w.last, w.waits, w.off = slices.Clone(w.now), make([]bool, len(w.now)), true
}

func (w *plain) on() {
	w.crash(nil)
	w.off, w.armed = false, 0
}

func (w *plain) waiting() []int {
	l := []int{}
	for page, waits := range w.waits {
		if waits {
			l = append(l, page)
		}
	}
	return l
}

func good(x api.Item) bool {
	return len(x.Key) >= 1 && len(x.Key) <= 250 && len(x.Value) <= 1024 && x.Version > 0
}

func check(b []byte) uint32 { return crc32.Checksum(b, crc32.MakeTable(crc32.Castagnoli)) }

// record lays an item by chapter 4's words.
func record(x api.Item) []byte {
	b := make([]byte, 32)
	b[0] = byte(len(x.Key))
	binary.LittleEndian.PutUint16(b[1:], uint16(len(x.Value)))
	b[3] = 82
	binary.LittleEndian.PutUint32(b[4:], x.Flags)
	binary.LittleEndian.PutUint64(b[8:], uint64(x.Exp))
	binary.LittleEndian.PutUint64(b[16:], x.Version)
	binary.LittleEndian.PutUint32(b[24:], check(b[:24]))
	binary.LittleEndian.PutUint32(b[28:], check([]byte(x.Key+x.Value)))
	return append(b, x.Key+x.Value...)
}

// recordsOf lays them one behind the other.
func recordsOf(l []api.Item) []byte {
	var b []byte
	for _, x := range l {
		b = append(b, record(x)...)
	}
	return b
}

// itemAhead reads the item whose record stands ahead: what is laid of it again must be these bytes.
func itemAhead(b []byte) (api.Item, []byte, bool) {
	if len(b) < 32 {
		return api.Item{}, nil, false
	}
	key, end := 32+int(b[0]), 32+int(b[0])+int(binary.LittleEndian.Uint16(b[1:]))
	if len(b) < end {
		return api.Item{}, nil, false
	}
	x := api.Item{
		Key:     string(b[32:key]),
		Value:   string(b[key:end]),
		Flags:   binary.LittleEndian.Uint32(b[4:]),
		Exp:     int64(binary.LittleEndian.Uint64(b[8:])),
		Version: binary.LittleEndian.Uint64(b[16:]),
	}
	return x, b[end:], good(x) && string(record(x)) == string(b[:end])
}

// pageOf lays a page by the chapter's words, of whatever bytes and place.
func pageOf(place uint32, b []byte) []byte {
	p := []byte{73, 77, byte(len(b)), byte(len(b) >> 8)}
	p = append(p, byte(place), byte(place>>8), byte(place>>16), byte(place>>24))
	return append(p, b...)
}

// parts cuts bytes into parts of 376.
func parts(b []byte) [][]byte {
	var l [][]byte
	for at := 0; at < len(b); at += 376 {
		l = append(l, b[at:min(at+376, len(b))])
	}
	return l
}

// refused tells whether the numbers are EARG. The sum is taken where none runs over.
func refused(first, pages, all int) bool {
	end := new(big.Int).Add(big.NewInt(int64(first)), big.NewInt(int64(pages)))
	return first < 0 || pages < 0 || end.Cmp(big.NewInt(int64(all))) > 0
}

func (w *plain) dump(first, pages int, l []api.Item) (int, int, api.Errno) {
	if refused(first, pages, len(w.now)) || slices.ContainsFunc(l, func(x api.Item) bool { return !good(x) }) {
		return 0, 0, api.EARG
	}
	size := len(recordsOf(l))
	items := len(l)
	for size > 376*pages {
		items--
		size -= len(record(l[items]))
	}
	all := parts(recordsOf(l[:items]))
	for place, b := range all {
		if e := w.write(first+place, pageOf(uint32(place), b)); e != api.OK {
			return 0, 0, e
		}
	}
	if e := w.flush(); e != api.OK {
		return 0, 0, e
	}
	return len(all), items, api.OK
}

func (w *plain) load(first, n int) ([]api.Item, api.Errno) {
	if refused(first, n, len(w.now)) {
		return nil, api.EARG
	}
	if w.off {
		return nil, api.EOFF
	}
	var all []byte
	for place := range n {
		s := w.now[first+place]
		bytes := int(s.text[2]) + 256*int(s.text[3])
		if s.kind != "whole" || bytes > 376 || place < n-1 && bytes < 376 {
			return nil, api.EFORM
		}
		b := s.text[8 : 8+bytes]
		if string(pageOf(uint32(place), b)) != string(s.text[:8+bytes]) {
			return nil, api.EFORM
		}
		all = append(all, b...)
	}
	var l []api.Item
	for len(all) > 0 {
		x, rest, ok := itemAhead(all)
		if !ok {
			return nil, api.EFORM
		}
		l, all = append(l, x), rest
	}
	return l, api.OK
}

// pair is a device, and what it must be by the chapters' words.
type pair struct {
	t *testing.T
	d *flash.Dev
	w *plain
}

func newPair(t *testing.T, pages int) pair {
	t.Helper()
	d, e := flash.New(pages)
	if e != api.OK {
		t.Fatalf("P3.1: New(%d): %d", pages, e)
	}
	return pair{t, d, newPlain(pages)}
}

func (p pair) copied() pair { return pair{p.t, p.d.Copy(), p.w.copied()} }

// dump does it on both, holds the answers against each other, and tells them.
func (p pair) dump(first, pages int, l []api.Item) (int, int, api.Errno) {
	p.t.Helper()
	was := slices.Clone(l)
	n, k, e := Dump(p.d, first, pages, l)
	wantN, wantK, wantE := p.w.dump(first, pages, was)
	if n != wantN || k != wantK || e != wantE {
		p.t.Fatalf("P15.1: Dump(%d, %d) of sizes %v: %d, %d, %d, want %d, %d, %d", first, pages, sizes(was), n, k, e, wantN, wantK, wantE)
	}
	if !slices.Equal(l, was) {
		p.t.Fatalf("R4: Dump(%d, %d) changed the list that it was handed", first, pages)
	}
	return n, k, e
}

// load does likewise.
func (p pair) load(first, n int) ([]api.Item, api.Errno) {
	p.t.Helper()
	l, e := Load(p.d, first, n)
	want, wantE := p.w.load(first, n)
	if !slices.Equal(l, want) || e != wantE {
		p.t.Fatalf("P15.1: Load(%d, %d): sizes %v, %d, want %v, %d", first, n, sizes(l), e, sizes(want), wantE)
	}
	return l, e
}

func (p pair) write(page int, b []byte) {
	p.t.Helper()
	if e, want := p.d.Write(page, b), p.w.write(page, b); e != want {
		p.t.Fatalf("P3.1: Write(%d): %d, want %d", page, e, want)
	}
}

func (p pair) erase(page int) {
	p.t.Helper()
	if e, want := p.d.Erase(page), p.w.put(page, sheet{kind: "blank"}); e != want {
		p.t.Fatalf("P3.1: Erase(%d): %d, want %d", page, e, want)
	}
}

func (p pair) flush() {
	p.t.Helper()
	if e, want := p.d.Flush(), p.w.flush(); e != want {
		p.t.Fatalf("P3.1: Flush: %d, want %d", e, want)
	}
}

func (p pair) arm(n int) {
	p.d.Arm(n)
	p.w.armed = n
}

func (p pair) crash(picks ...byte) {
	p.d.Crash(picks)
	p.w.crash(picks)
}

func (p pair) on() {
	p.d.On()
	p.w.on()
}

// tear lets a page be torn, and the power is on again.
func (p pair) tear(page int) {
	p.t.Helper()
	p.flush()
	p.write(page, nil)
	p.crash(2)
	p.on()
}

// same holds the power and all pages against each other: as they stand, and as they were when they last
// did not wait. Copies are asked, so that a power that is off does not hide them.
func (p pair) same() {
	p.t.Helper()
	if got, want := fmt.Sprint(p.d.Power(), p.d.Waiting()), fmt.Sprint(!p.w.off, p.w.waiting()); got != want {
		p.t.Fatalf("P15.1: power and pages that wait: %s, want %s", got, want)
	}
	p.stands("now", p.w.now, slices.Repeat([]byte{1}, len(p.w.now)))
	p.stands("flushed", p.w.last, nil)
}

func (p pair) stands(when string, want []sheet, picks []byte) {
	p.t.Helper()
	d := p.d.Copy()
	d.Crash(picks)
	d.On()
	for page := range want {
		if got := sheetOf(d, page); got != want[page] {
			p.t.Fatalf("P15.1: page %d, %s: %s %v, want %s %v", page, when, got.kind, got.text, want[page].kind, want[page].text)
		}
	}
}

// sheetOf reads a page of a device whose power is on.
func sheetOf(d *flash.Dev, page int) sheet {
	b, e := d.Read(page)
	switch e {
	case api.ENONE:
		return sheet{kind: "blank"}
	case api.ETORN:
		return sheet{kind: "torn"}
	}
	s := sheet{kind: "whole"}
	copy(s.text[:], b)
	return s
}

// sizes tells how many bytes the records of items have.
func sizes(l []api.Item) []int {
	n := make([]int, len(l))
	for i, x := range l {
		n[i] = 32 + len(x.Key) + len(x.Value)
	}
	return n
}
