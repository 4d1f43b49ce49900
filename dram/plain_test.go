package dram

import (
	"fmt"
	"slices"
	"testing"

	"cellaret/api"
)

// chunkBytes and pageChunks are the classes' chunks, and how many of them a page has.
var (
	chunkBytes = [6]int{64, 128, 256, 512, 1024, 2048}
	pageChunks = [6]int{64, 32, 16, 8, 4, 2}
)

// entry is an item that is kept, where, and whether it is used.
type entry struct {
	out   Out
	chunk int
	used  bool
}

// rows are a class' three lists, each from its head on.
type rows struct{ hot, warm, cold []*entry }

// plain is a cache by the chapter's words: whose each page is, and each class' lists. It calls no layer.
type plain struct {
	owner   []int // -1: nobody's
	classes [6]rows
}

func newPlain(pages int) *plain { return &plain{owner: slices.Repeat([]int{-1}, pages)} }

func (r *rows) all() []*entry { return slices.Concat(r.hot, r.warm, r.cold) }

func without(row []*entry, x *entry) []*entry {
	return slices.DeleteFunc(slices.Clone(row), func(y *entry) bool { return y == x })
}

func ahead(x *entry, row []*entry) []*entry { return append([]*entry{x}, row...) }

func lastOf(row []*entry) *entry { return row[len(row)-1] }

func (r *rows) out(x *entry) {
	r.hot, r.warm, r.cold = without(r.hot, x), without(r.warm, x), without(r.cold, x)
}

// toWarm and toCold are what becomes of a list's last one.
func (r *rows) toWarm(x *entry) {
	r.out(x)
	x.used = false
	r.warm = ahead(x, r.warm)
}

func (r *rows) toCold(x *entry) {
	r.out(x)
	r.cold = ahead(x, r.cold)
}

// add is seg's Add of one that is new, with its balance.
func (r *rows) add(x *entry) {
	r.hot = ahead(x, r.hot)
	n := len(r.all())
	for len(r.hot) > (n+4)/5 {
		if y := lastOf(r.hot); y.used {
			r.toWarm(y)
		} else {
			r.toCold(y)
		}
	}
	for len(r.warm) > 2*n/5 {
		if y := lastOf(r.warm); y.used {
			r.toWarm(y)
		} else {
			r.toCold(y)
		}
	}
}

// evict is seg's Evict of some that are not none.
func (r *rows) evict() *entry {
	for len(r.cold) > 0 && lastOf(r.cold).used {
		r.toWarm(lastOf(r.cold))
	}
	row := r.cold
	if len(row) == 0 {
		row = r.warm
	}
	if len(row) == 0 {
		row = r.hot
	}
	x := lastOf(row)
	r.out(x)
	return x
}

// all are the entries in the order of Items.
func (w *plain) all() []*entry {
	var l []*entry
	for class := range w.classes {
		l = append(l, w.classes[class].all()...)
	}
	return l
}

func (w *plain) find(key string) *entry {
	for _, x := range w.all() {
		if x.out.Item.Key == key {
			return x
		}
	}
	return nil
}

func (w *plain) out(x *entry) {
	for class := range w.classes {
		w.classes[class].out(x)
	}
}

// isFree tells whether nobody stands in a chunk.
func (w *plain) isFree(chunk int) bool {
	return !slices.ContainsFunc(w.all(), func(x *entry) bool { return x.chunk == chunk })
}

// isBlank tells whether all chunks of a page are free.
func (w *plain) isBlank(page int) bool {
	return !slices.ContainsFunc(w.all(), func(x *entry) bool { return x.chunk/64 == page })
}

// take is slab's Take: -1 for EFULL.
func (w *plain) take(class int) int {
	for page, owner := range w.owner {
		for place := range pageChunks[class] {
			if owner == class && w.isFree(64*page+place) {
				return 64*page + place
			}
		}
	}
	for page, owner := range w.owner {
		if owner == -1 {
			w.owner[page] = class
			return 64 * page
		}
	}
	for page := range w.owner {
		if w.isBlank(page) {
			w.owner[page] = class
			return 64 * page
		}
	}
	return -1
}

// giver is the class of which one is let go.
func (w *plain) giver(class int) *rows {
	if len(w.classes[class].all()) > 0 {
		return &w.classes[class]
	}
	most := 0
	for k := range w.classes {
		if len(w.classes[k].all()) > len(w.classes[most].all()) {
			most = k
		}
	}
	return &w.classes[most]
}

func classOf(x api.Item) int {
	size := 32 + len(x.Key) + len(x.Value)
	return slices.IndexFunc(chunkBytes[:], func(n int) bool { return size <= n })
}

func (w *plain) put(x api.Item, clean bool) ([]Out, api.Errno) {
	if len(x.Key) < 1 || len(x.Key) > 250 || len(x.Value) > 1024 || x.Version == 0 {
		return nil, api.EARG
	}
	w.delete(x.Key)
	class := classOf(x)
	var gone []Out
	chunk := w.take(class)
	for chunk == -1 {
		gone = append(gone, w.giver(class).evict().out)
		chunk = w.take(class)
	}
	w.classes[class].add(&entry{out: Out{x, clean}, chunk: chunk})
	return gone, api.OK
}

func (w *plain) dead(x api.Item, now int64) bool { return x.Exp != 0 && !(x.Exp > now) }

func (w *plain) get(key string, now int64) (api.Item, bool) {
	x := w.find(key)
	if x == nil {
		return api.Item{}, false
	}
	if w.dead(x.out.Item, now) {
		w.out(x)
		return api.Item{}, false
	}
	x.used = true
	return x.out.Item, true
}

func (w *plain) peek(key string) (Out, bool) {
	if x := w.find(key); x != nil {
		return x.out, true
	}
	return Out{}, false
}

func (w *plain) delete(key string) bool {
	x := w.find(key)
	if x != nil {
		w.out(x)
	}
	return x != nil
}

func (w *plain) clear() { w.classes = [6]rows{} }

func (w *plain) items() []Out {
	var l []Out
	for _, x := range w.all() {
		l = append(l, x.out)
	}
	return l
}

// text tells items by their keys and versions; a * stands behind clean ones.
func text(l []Out) string {
	t := ""
	for i, x := range l {
		if i > 0 {
			t += " "
		}
		t += fmt.Sprint(x.Item.Key, x.Item.Version)
		if x.Clean {
			t += "*"
		}
	}
	return t
}

// pair is a cache and the plain one that it is held against.
type pair struct {
	t *testing.T
	c *Cache
	w *plain
}

func newPair(t *testing.T, pages int) pair {
	t.Helper()
	return pair{t, made(t, pages), newPlain(pages)}
}

// put is held against what Going told ahead of it, too: which changes nothing that the plain one could tell.
func (p pair) put(x api.Item, clean bool) ([]Out, api.Errno) {
	p.t.Helper()
	going := p.c.Going(x)
	gone, e := p.c.Put(x, clean)
	if !slices.Equal(going, gone) {
		p.t.Fatalf("P14.1: Put of %q, %d bytes: let go %q, and Going told %q", x.Key, 32+len(x.Key)+len(x.Value), text(gone), text(going))
	}
	if want, we := p.w.put(x, clean); !slices.Equal(gone, want) || e != we {
		p.t.Fatalf("P14.1: Put of %q, %d bytes: let go %q, %d, want %q, %d", x.Key, 32+len(x.Key)+len(x.Value), text(gone), e, text(want), we)
	}
	return gone, e
}

func (p pair) get(key string, now int64) {
	p.t.Helper()
	x, ok := p.c.Get(key, now)
	if want, had := p.w.get(key, now); x != want || ok != had {
		p.t.Fatalf("P14.2: Get(%q, %d): %+v, %v, want %+v, %v", key, now, x, ok, want, had)
	}
}

func (p pair) peek(key string) {
	p.t.Helper()
	x, ok := p.c.Peek(key)
	if want, had := p.w.peek(key); x != want || ok != had {
		p.t.Fatalf("P14.2: Peek(%q): %+v, %v, want %+v, %v", key, x, ok, want, had)
	}
}

func (p pair) delete(key string) {
	p.t.Helper()
	if got, want := p.c.Delete(key), p.w.delete(key); got != want {
		p.t.Fatalf("P14.2: Delete(%q): %v, want %v", key, got, want)
	}
}

func (p pair) clear() {
	p.c.Clear()
	p.w.clear()
}

// same holds what both tell without a change against each other.
func (p pair) same() {
	p.t.Helper()
	got, want := p.c.Items(), p.w.items()
	if !slices.Equal(got, want) || p.c.Len() != len(want) {
		p.t.Fatalf("P14.2: Items: %q, Len %d, want %q", text(got), p.c.Len(), text(want))
	}
	for _, x := range want {
		p.peek(x.Item.Key)
	}
}

// probe goes on with new items of all classes, so that uses and chunks come to light.
func (p pair) probe() {
	p.t.Helper()
	for i := range 24 {
		class := []int{4, 3, 5, 5, 2, 4, 1, 0}[i%8]
		p.put(ofClass(fmt.Sprint("probe", i), class, 1), i%3 == 0)
		p.same()
	}
}
