package image

import (
	"math/rand"
	"testing"

	"cellaret/api"
)

// anyBytes has so many bytes, of few kinds: so that forms are met by chance.
func anyBytes(r *rand.Rand, n int) string {
	b := make([]byte, n)
	for i := range b {
		b[i] = []byte{0, 73, 77, 82, 255, 'a', '\n'}[r.Intn(7)]
	}
	return string(b)
}

// anyItem has an item that is Good, small or great, often such that records end with a page.
func anyItem(r *rand.Rand) api.Item {
	x := api.Item{Key: anyBytes(r, 1+r.Intn(8)), Version: 1 + r.Uint64()>>1, Flags: r.Uint32(), Exp: int64(r.Uint64())}
	switch r.Intn(6) {
	case 0:
		x.Key = anyBytes(r, 1+r.Intn(250))
		x.Value = anyBytes(r, r.Intn(1025))
	case 1, 2:
		x.Value = anyBytes(r, 376-32-len(x.Key))
	case 3:
		x.Value = anyBytes(r, 188-32-len(x.Key))
	case 4:
		x.Value = anyBytes(r, r.Intn(1025))
	default:
		x.Value = anyBytes(r, r.Intn(60))
	}
	return x
}

func anyItems(r *rand.Rand) []api.Item {
	l := make([]api.Item, r.Intn(1+r.Intn(12)), 16)
	for i := range l {
		l[i] = anyItem(r)
	}
	if len(l) > 0 && r.Intn(25) == 0 {
		bad := noGood()
		l[r.Intn(len(l))] = bad[r.Intn(len(bad))]
	}
	return l
}

// span has pages of a device, now and then past its ends.
func span(r *rand.Rand, all int) (int, int) {
	if r.Intn(20) == 0 {
		return r.Intn(all+4) - 2, r.Intn(all+4) - 2
	}
	first := r.Intn(min(all, 3) + 1)
	return first, r.Intn(all - first + 1)
}

// spoil writes a page behind the image's back: other bytes, or an elder page's with one byte changed.
func (p pair) spoil(r *rand.Rand) {
	p.t.Helper()
	page := r.Intn(len(p.w.now))
	from := p.w.now[r.Intn(len(p.w.now))].text
	switch r.Intn(6) {
	case 0:
		p.erase(page)
	case 1:
		p.write(page, []byte(anyBytes(r, r.Intn(385))))
	case 2:
		p.write(page, pageOf(uint32(r.Intn(4)), recordsOf([]api.Item{{Key: "k", Value: "v", Version: 1}})))
	case 3:
		p.write(page, from[:])
	case 4:
		from[r.Intn(8)] += byte(1 + r.Intn(255))
		p.write(page, from[:])
	default:
		from[r.Intn(384)] ^= 1 << r.Intn(8)
		p.write(page, from[:])
	}
}

func (p pair) lose(r *rand.Rand) {
	switch r.Intn(3) {
	case 0:
		p.arm(1 + r.Intn(8))
	case 1:
		picks := make([]byte, r.Intn(8))
		r.Read(picks)
		p.crash(picks...)
	default:
		p.on()
	}
}

// step does one call on both.
func (p pair) step(r *rand.Rand) {
	p.t.Helper()
	first, n := span(r, len(p.w.now))
	switch k := r.Intn(100); {
	case k < 35:
		if written, items, e := p.dump(first, n, anyItems(r)); e == api.OK {
			if l, e := p.load(first, written); len(l) != items || e != api.OK {
				p.t.Fatalf("P15.1: Load of what Dump wrote: %d items, %d, want %d", len(l), e, items)
			}
		}
	case k < 70:
		p.load(first, n)
	case k < 85:
		p.spoil(r)
	case k < 88:
		p.flush()
	case k < 92:
		p.lose(r)
	case k < 97 && p.w.off:
		p.on()
	default:
		p.load(first, n)
	}
}

func TestLongRuns(t *testing.T) {
	for seed := range 60 {
		r := rand.New(rand.NewSource(int64(seed)))
		p := newPair(t, []int{1, 2, 3, 5, 8, 13}[seed%6])
		for range 1500 {
			p.step(r)
			p.same()
		}
	}
}

// TestTwoImages has two images side by side: neither touches the other.
func TestTwoImages(t *testing.T) {
	r := rand.New(rand.NewSource(9))
	p := newPair(t, 20)
	var kept [2][]api.Item
	var pages [2]int
	for range 1500 {
		at := r.Intn(2)
		l := anyItems(r)
		if n, k, e := p.dump(10*at, 10, l); e == api.OK {
			kept[at], pages[at] = append([]api.Item(nil), l[:k]...), n
		}
		for at := range 2 {
			loads(p, 10*at, pages[at], kept[at])
		}
		p.same()
	}
}
