package table

import (
	"fmt"
	"hash/fnv"
	"slices"
)

// home is a key's bucket, out of so many.
func home(key string, buckets int) int {
	f := fnv.New64a()
	f.Write([]byte(key))
	return int(f.Sum64() % uint64(buckets))
}

// spot is what is known of one key.
type spot struct {
	v       int
	isOld   bool // it stands in an old bucket that is left
	arrived int  // when it was added or moved: the greatest number is the last
}

// plain is a table by the chapter's words: no chains, but a map with each key's spot, and a clock.
type plain struct {
	keys    map[string]spot
	buckets int
	left    int
	clock   int
}

func newPlain(buckets int) *plain { return &plain{keys: map[string]spot{}, buckets: buckets} }

// leastLeft is the old bucket that is moved next.
func (w *plain) leastLeft() int { return w.buckets/2 - w.left }

// isLeft tells whether a key's old bucket is left to move.
func (w *plain) isLeft(key string) bool {
	return w.left > 0 && home(key, w.buckets/2) >= w.leastLeft()
}

// lastFirst has the keys that are asked for, the one that arrived last first.
func (w *plain) lastFirst(asked func(string, spot) bool) []string {
	var l []string
	for key, at := range w.keys {
		if asked(key, at) {
			l = append(l, key)
		}
	}
	slices.SortFunc(l, func(a, b string) int { return w.keys[b].arrived - w.keys[a].arrived })
	return l
}

// move is what the chapter asks of each Set and Delete first.
func (w *plain) move() {
	if w.left == 0 {
		return
	}
	least := w.leastLeft()
	l := w.lastFirst(func(key string, at spot) bool { return at.isOld && home(key, w.buckets/2) == least })
	w.left--
	for _, key := range l {
		w.clock++
		w.keys[key] = spot{v: w.keys[key].v, arrived: w.clock}
	}
}

// set is the chapter's Set.
func (w *plain) set(key string, v int) bool {
	w.move()
	if at, there := w.keys[key]; there {
		at.v = v
		w.keys[key] = at
		return false
	}
	w.clock++
	w.keys[key] = spot{v: v, isOld: w.isLeft(key), arrived: w.clock}
	if 2*len(w.keys) > 3*w.buckets && w.left == 0 && w.buckets < 65536 {
		w.left = w.buckets
		w.buckets *= 2
		for key, at := range w.keys {
			at.isOld = true
			w.keys[key] = at
		}
	}
	return true
}

// drop is the chapter's Delete.
func (w *plain) drop(key string) bool {
	w.move()
	_, there := w.keys[key]
	delete(w.keys, key)
	return there
}

// sorted has all keys, the lesser bytes first.
func (w *plain) sorted() []string {
	l := make([]string, 0, len(w.keys))
	for key := range w.keys {
		l = append(l, key)
	}
	slices.Sort(l)
	return l
}

// chains has all chains.
func (w *plain) chains() [][]string {
	l := make([][]string, w.buckets)
	for _, key := range w.lastFirst(func(_ string, at spot) bool { return !at.isOld }) {
		i := home(key, w.buckets)
		l[i] = append(l[i], key)
	}
	return l
}

// counts is what both tell of themselves in numbers.
func (w *plain) counts() string { return fmt.Sprint(len(w.keys), " in ", w.buckets, ", left ", w.left) }

func counts(x *Table) string { return fmt.Sprint(x.Len(), " in ", x.Buckets(), ", left ", x.Left()) }

// chains asks a table for all of them.
func chains(x *Table) [][]string {
	l := make([][]string, x.Buckets())
	for i := range l {
		l[i] = x.Chain(i)
	}
	return l
}

// state is all that a table tells without a key, in one text.
func state(x *Table) string { return fmt.Sprintf("%s: %q, %q", counts(x), x.Keys(), chains(x)) }
