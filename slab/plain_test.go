package slab

import (
	"fmt"
	"slices"

	"cellaret/api"
)

// chunkBytes and pageChunks are the chapter's lists, class by class.
var (
	chunkBytes = []int{64, 128, 256, 512, 1024, 2048}
	pageChunks = []int{64, 32, 16, 8, 4, 2}
)

// plain is a slab by the chapter's words: whose each page is, and the list of the chunks that are taken.
type plain struct {
	owner []int // -1: nobody's
	taken []int // in the order in which they were taken
}

func newPlain(pages int) *plain { return &plain{owner: slices.Repeat([]int{-1}, pages)} }

// onPage has the chunks of a page, as its owner cuts it.
func (w *plain) onPage(at int) []int {
	var l []int
	if w.owner[at] >= 0 {
		for place := range pageChunks[w.owner[at]] {
			l = append(l, 64*at+place)
		}
	}
	return l
}

// isFree tells whether all chunks of a page are free.
func (w *plain) isFree(at int) bool {
	return !slices.ContainsFunc(w.onPage(at), func(c int) bool { return slices.Contains(w.taken, c) })
}

// take is the chapter's Take, sentence by sentence.
func (w *plain) take(class int) (int, api.Errno) {
	if class < 0 || class > 5 {
		return 0, api.EARG
	}
	for at, owner := range w.owner {
		for _, c := range w.onPage(at) {
			if owner == class && !slices.Contains(w.taken, c) {
				w.taken = append(w.taken, c)
				return c, api.OK
			}
		}
	}
	for at, owner := range w.owner {
		if owner == -1 {
			return w.give(at, class), api.OK
		}
	}
	for at := range w.owner {
		if w.isFree(at) {
			return w.give(at, class), api.OK
		}
	}
	return 0, api.EFULL
}

// give lets a page be a class's, and takes its chunk 0.
func (w *plain) give(at, class int) int {
	w.owner[at] = class
	w.taken = append(w.taken, 64*at)
	return 64 * at
}

// free is the chapter's Free.
func (w *plain) free(chunk int) api.Errno {
	i := slices.Index(w.taken, chunk)
	if i < 0 {
		return api.ENONE
	}
	w.taken = slices.Delete(w.taken, i, i+1)
	return api.OK
}

// of is the chapter's Of.
func (w *plain) of(chunk int) int {
	if !slices.Contains(w.taken, chunk) {
		return -1
	}
	return w.owner[chunk/64]
}

// used is the chapter's Used.
func (w *plain) used(class int) int {
	n := 0
	for _, c := range w.taken {
		if w.owner[c/64] == class {
			n++
		}
	}
	return n
}

// pages is the chapter's Pages, and with -1 its Left.
func (w *plain) pages(class int) int {
	n := 0
	for _, owner := range w.owner {
		if owner == class {
			n++
		}
	}
	return n
}

// seen is all that a slab's calls tell without changing it, but Of, in one text.
func seen(s *Slab) string {
	t := fmt.Sprint("left ", s.Left())
	for class := range 6 {
		t += fmt.Sprint(", ", class, ": ", s.Used(class), " on ", s.Pages(class))
	}
	return t
}

// said is the same of the lists.
func (w *plain) said() string {
	t := fmt.Sprint("left ", w.pages(-1))
	for class := range 6 {
		t += fmt.Sprint(", ", class, ": ", w.used(class), " on ", w.pages(class))
	}
	return t
}

// classesOf asks Of over all numbers of so many pages, and over a page's on each side of them.
func classesOf(s *Slab, pages int) []int {
	var l []int
	for c := -64; c < 64*pages+64; c++ {
		l = append(l, s.Of(c))
	}
	return l
}

// classesOf is the same of the lists.
func (w *plain) classesOf() []int {
	l := slices.Repeat([]int{-1}, 64*len(w.owner)+128)
	for _, c := range w.taken {
		l[64+c] = w.owner[c/64]
	}
	return l
}

// state is all that is told of a slab of so many pages.
func state(s *Slab, pages int) string { return fmt.Sprint(seen(s), classesOf(s, pages)) }
