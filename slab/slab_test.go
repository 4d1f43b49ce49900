package slab

import (
	"fmt"
	"math"
	"slices"
	"testing"

	"cellaret/api"
)

// noClass are numbers of no class, chunks' numbers that no page has among them.
var noClass = []int{-1, 6, -2, 7, -64, 63, 64, 65, 128, 2048, 4096, 1 << 31, 1<<32 + 1, 1 << 40, -1 << 31, math.MinInt, math.MinInt + 1, math.MaxInt, math.MaxInt - 1}

// made makes a slab, and fails if that is refused.
func made(t *testing.T, pages int) *Slab {
	t.Helper()
	s, e := New(pages)
	if e != api.OK || s == nil {
		t.Fatalf("P11.1: New(%d): %v, %d", pages, s, e)
	}
	return s
}

// takes takes chunks of one class, and holds their numbers against those that are asked.
func takes(t *testing.T, s *Slab, class int, want ...int) {
	t.Helper()
	for i, w := range want {
		if c, e := s.Take(class); c != w || e != api.OK {
			t.Fatalf("P11.1: Take(%d), time %d: %d, %d, want %d", class, i, c, e, w)
		}
	}
}

// refuses holds that Take answers the error and no chunk, and changes nothing that is told.
func refuses(t *testing.T, s *Slab, pages, class int, want api.Errno) {
	t.Helper()
	ahead := state(s, pages)
	for range 2 {
		if c, e := s.Take(class); c != 0 || e != want {
			t.Fatalf("P11.1: Take(%d): %d, %d, want 0, %d", class, c, e, want)
		}
	}
	if behind := state(s, pages); behind != ahead {
		t.Fatalf("R3: Take(%d) was refused, but of %s it made %s", class, ahead, behind)
	}
}

// frees frees chunks that are taken.
func frees(t *testing.T, s *Slab, chunks ...int) {
	t.Helper()
	for _, c := range chunks {
		if e := s.Free(c); e != api.OK {
			t.Fatalf("P11.1: Free(%d): %d", c, e)
		}
	}
}

// noneFree holds that Free answers ENONE of each number, and changes nothing that is told.
func noneFree(t *testing.T, s *Slab, pages int, chunks ...int) {
	t.Helper()
	ahead := state(s, pages)
	for _, c := range chunks {
		if e := s.Free(c); e != api.ENONE {
			t.Fatalf("P11.1: Free(%d): %d, want ENONE", c, e)
		}
		if k := s.Of(c); k != -1 {
			t.Fatalf("P11.2: Of(%d): %d, want -1", c, k)
		}
	}
	if behind := state(s, pages); behind != ahead {
		t.Fatalf("R3: Free of %v was refused, but of %s it made %s", chunks, ahead, behind)
	}
}

// tells holds all counts against a text in the form of seen, of the classes that are named; all others are 0.
func tells(t *testing.T, s *Slab, left int, counts map[int][2]int) {
	t.Helper()
	want := fmt.Sprint("left ", left)
	for class := range 6 {
		want += fmt.Sprint(", ", class, ": ", counts[class][0], " on ", counts[class][1])
	}
	if got := seen(s); got != want {
		t.Fatalf("P11.2: %s, want %s", got, want)
	}
}

// row has n numbers from a first one on.
func row(first, n int) []int {
	var l []int
	for i := range n {
		l = append(l, first+i)
	}
	return l
}

func TestClassAtTheEdges(t *testing.T) {
	for _, size := range []int{-1, -2, -64, -2048, math.MinInt, math.MinInt + 1, math.MinInt32, 2049, 2050, 4096, math.MaxInt32, math.MaxInt - 1, math.MaxInt, 1 << 32, 1<<32 + 64} {
		if c := Class(size); c != -1 {
			t.Errorf("P11.1: Class(%d): %d, want -1", size, c)
		}
	}
	for class, n := range chunkBytes {
		if c := Class(n); c != class {
			t.Errorf("P11.1: Class(%d): %d, want %d", n, c, class)
		}
		next := class + 1
		if next == 6 {
			next = -1
		}
		if c := Class(n + 1); c != next {
			t.Errorf("P11.1: Class(%d): %d, want %d", n+1, c, next)
		}
	}
	if c := Class(0); c != 0 {
		t.Errorf("P11.1: Class(0): %d", c)
	}
}

func TestClassOfEachSize(t *testing.T) {
	for size := -100; size < 5000; size++ {
		want := slices.IndexFunc(chunkBytes, func(n int) bool { return n >= size })
		if size < 0 {
			want = -1
		}
		if c := Class(size); c != want {
			t.Errorf("P11.1: Class(%d): %d, want %d", size, c, want)
		}
	}
}

func TestChunk(t *testing.T) {
	for class, want := range chunkBytes {
		if n := Chunk(class); n != want {
			t.Errorf("P11.1: Chunk(%d): %d, want %d", class, n, want)
		}
		if n := 4096 / Chunk(class); n != pageChunks[class] {
			t.Errorf("P11.1: a page has %d of class %d", n, class)
		}
	}
	for _, class := range noClass {
		if n := Chunk(class); n != 0 {
			t.Errorf("P11.1: Chunk(%d): %d, want 0", class, n)
		}
	}
}

func TestNew(t *testing.T) {
	for _, pages := range []int{0, -1, -1024, 1025, 1026, 4096, 1 << 31, 1 << 32, 1<<32 + 1, math.MinInt, math.MaxInt} {
		if s, e := New(pages); s != nil || e != api.EARG {
			t.Errorf("P11.1: New(%d): %v, %d, want nil, EARG", pages, s, e)
		}
	}
	for _, pages := range []int{1, 2, 3, 63, 64, 65, 1023, 1024} {
		s := made(t, pages)
		tells(t, s, pages, nil)
		for c, k := range classesOf(s, pages) {
			if k != -1 {
				t.Fatalf("P11.2: Of(%d) of a new one: %d", c-64, k)
			}
		}
		noneFree(t, s, pages, 0, 1, 63, 64*pages-1, 64*pages, -1)
		takes(t, s, 3, 0)
	}
}

func TestChaptersExample(t *testing.T) {
	s := made(t, 1)
	takes(t, s, 5, 0, 1)
	refuses(t, s, 1, 0, api.EFULL)
	frees(t, s, 0, 1)
	takes(t, s, 0, 0)
	tells(t, s, 0, map[int][2]int{0: {1, 1}})
}

func TestTakeOfNoClass(t *testing.T) {
	s := made(t, 2)
	for _, class := range noClass {
		refuses(t, s, 2, class, api.EARG)
	}
	takes(t, s, 4, 0, 1)
	for _, class := range noClass {
		refuses(t, s, 2, class, api.EARG)
	}
	takes(t, s, 4, 2, 3, 64, 65, 66, 67)
	for _, class := range noClass {
		refuses(t, s, 2, class, api.EARG)
	}
	frees(t, s, row(0, 4)...)
	for _, class := range noClass {
		refuses(t, s, 2, class, api.EARG)
	}
	tells(t, s, 0, map[int][2]int{4: {4, 2}})
}

func TestTakeFillsPageByPage(t *testing.T) {
	for class, many := range pageChunks {
		for _, pages := range []int{1, 2, 3, 7, 1024} {
			s := made(t, pages)
			for at := range pages {
				takes(t, s, class, row(64*at, many)...)
				tells(t, s, pages-at-1, map[int][2]int{class: {many * (at + 1), at + 1}})
			}
			for other := range 6 {
				refuses(t, s, pages, other, api.EFULL)
			}
			noneFree(t, s, pages, row(64*pages-64+many, 64-many+1)...)
		}
	}
}

func TestTakePrefersItsOwnPages(t *testing.T) {
	s := made(t, 4)
	takes(t, s, 5, 0, 1)
	takes(t, s, 4, 64)
	frees(t, s, 0, 1)
	// Page 0 is all free and lower, and two pages belong to none: class 4 still has room of its own.
	takes(t, s, 4, 65, 66, 67)
	tells(t, s, 2, map[int][2]int{4: {4, 1}, 5: {0, 1}})
	takes(t, s, 4, 128)
	tells(t, s, 1, map[int][2]int{4: {5, 2}, 5: {0, 1}})
}

func TestTakeUsesItsOwnEmptyPage(t *testing.T) {
	s := made(t, 3)
	takes(t, s, 5, 0)
	takes(t, s, 4, 64)
	frees(t, s, 0, 64)
	takes(t, s, 4, 64)
	takes(t, s, 5, 0)
	tells(t, s, 1, map[int][2]int{4: {1, 1}, 5: {1, 1}})
}

func TestTakePrefersThePageOfNone(t *testing.T) {
	s := made(t, 4)
	takes(t, s, 5, 0)
	takes(t, s, 3, 64)
	frees(t, s, 0, 64)
	takes(t, s, 0, 128)
	takes(t, s, 1, 192)
	tells(t, s, 0, map[int][2]int{0: {1, 1}, 1: {1, 1}, 3: {0, 1}, 5: {0, 1}})
	// Now none is left: of the two pages that are all free the least goes first.
	takes(t, s, 2, 0)
	tells(t, s, 0, map[int][2]int{0: {1, 1}, 1: {1, 1}, 2: {1, 1}, 3: {0, 1}})
	takes(t, s, 4, 64)
	tells(t, s, 0, map[int][2]int{0: {1, 1}, 1: {1, 1}, 2: {1, 1}, 4: {1, 1}})
	for _, class := range []int{3, 5} {
		refuses(t, s, 4, class, api.EFULL)
	}
}

func TestTakeLeavesPagesThatAreInUse(t *testing.T) {
	for class, many := range pageChunks {
		for kept := range many {
			s := made(t, 2)
			takes(t, s, class, row(0, many)...)
			takes(t, s, class, row(64, many)...)
			for place := range many {
				frees(t, s, 64+place)
				if place != kept {
					frees(t, s, place)
				}
			}
			other := (class + 1) % 6
			takes(t, s, other, 64)
			tells(t, s, 0, map[int][2]int{class: {1, 1}, other: {1, 1}})
			refuses(t, s, 2, (class+2)%6, api.EFULL)
			frees(t, s, kept)
			takes(t, s, (class+2)%6, 0)
			tells(t, s, 0, map[int][2]int{other: {1, 1}, (class + 2) % 6: {1, 1}})
		}
	}
}

func TestPageThatChangesItsClass(t *testing.T) {
	for from, many := range pageChunks {
		for to, more := range pageChunks {
			if from == to {
				continue
			}
			s := made(t, 1)
			takes(t, s, from, row(0, many)...)
			frees(t, s, row(0, many)...)
			noneFree(t, s, 1, row(-1, 66)...)
			takes(t, s, to, row(0, more)...)
			tells(t, s, 0, map[int][2]int{to: {more, 1}})
			noneFree(t, s, 1, row(more, 66-more)...)
			refuses(t, s, 1, from, api.EFULL)
			refuses(t, s, 1, to, api.EFULL)
		}
	}
}

func TestRefusedTakeIsForgotten(t *testing.T) {
	s := made(t, 2)
	takes(t, s, 5, 0, 1)
	takes(t, s, 4, 64)
	for class := range 4 {
		refuses(t, s, 2, class, api.EFULL)
	}
	refuses(t, s, 2, 5, api.EFULL)
	takes(t, s, 4, 65)
	frees(t, s, 64)
	refuses(t, s, 2, 0, api.EFULL)
	takes(t, s, 4, 64, 66, 67)
	refuses(t, s, 2, 4, api.EFULL)
	frees(t, s, 1)
	refuses(t, s, 2, 4, api.EFULL)
	takes(t, s, 5, 1)
	tells(t, s, 0, map[int][2]int{4: {4, 1}, 5: {2, 1}})
}

func TestLeastFreeChunkOverGaps(t *testing.T) {
	for class, many := range pageChunks {
		other := (class + 1) % 6
		s := made(t, 6)
		// Pages 0, 2 and 4 are the class's, with another's between them.
		for _, at := range []int{0, 2, 4} {
			takes(t, s, class, row(64*at, many)...)
			takes(t, s, other, row(64*(at+1), pageChunks[other])...)
		}
		gaps := []int{64*4 + many - 1, 64 * 2, 64*2 + many - 1, many - 1, 64 * 4, many / 2}
		slices.Sort(gaps)
		gaps = slices.Compact(gaps)
		for i := range gaps {
			frees(t, s, gaps[(i*7+3)%len(gaps)])
		}
		// The other's pages have room too, but not for this class.
		frees(t, s, 64, 64*3, 64*5)
		takes(t, s, class, gaps...)
		refuses(t, s, 6, class, api.EFULL)
	}
}

func TestGapIsTakenAheadOfThePagesEnd(t *testing.T) {
	s := made(t, 3)
	takes(t, s, 2, row(0, 16)...)
	takes(t, s, 2, 64, 65, 66)
	frees(t, s, 64, 9, 5)
	takes(t, s, 2, 5, 9, 64, 67)
	frees(t, s, 66)
	takes(t, s, 2, 66, 68)
	tells(t, s, 1, map[int][2]int{2: {21, 2}})
}

func TestFreeOfWhatIsNotTaken(t *testing.T) {
	outside := []int{-1, -2, -63, -64, -65, -128, 192, 193, 255, 256, 64 * 1024, 1 << 31, 1 << 32, 1 << 50, math.MinInt, math.MinInt + 1, math.MaxInt - 63, math.MaxInt}
	for class, many := range pageChunks {
		s := made(t, 3)
		noneFree(t, s, 3, outside...)
		noneFree(t, s, 3, row(-1, 194)...)
		takes(t, s, class, 0)
		noneFree(t, s, 3, outside...)
		noneFree(t, s, 3, row(1, 192)...)
		takes(t, s, class, row(1, many-1)...)
		noneFree(t, s, 3, outside...)
		noneFree(t, s, 3, row(many, 193-many)...)
		for place := range many {
			frees(t, s, place)
			noneFree(t, s, 3, place)
		}
		noneFree(t, s, 3, outside...)
		tells(t, s, 2, map[int][2]int{class: {0, 1}})
	}
}

func TestPageStaysWithItsClass(t *testing.T) {
	for class, many := range pageChunks {
		s := made(t, 2)
		takes(t, s, class, row(0, many)...)
		for place := range many {
			tells(t, s, 1, map[int][2]int{class: {many - place, 1}})
			frees(t, s, many-1-place)
		}
		tells(t, s, 1, map[int][2]int{class: {0, 1}})
		takes(t, s, (class+1)%6, 64)
		tells(t, s, 0, map[int][2]int{class: {0, 1}, (class + 1) % 6: {1, 1}})
		takes(t, s, class, 0)
	}
}

func TestCountsOfNoClass(t *testing.T) {
	blank, some, full := made(t, 5), made(t, 5), made(t, 1)
	takes(t, some, 0, row(0, 64)...)
	takes(t, some, 5, 64)
	takes(t, full, 5, 0, 1)
	for _, s := range []*Slab{blank, some, full} {
		for _, class := range noClass {
			if n := s.Used(class); n != 0 {
				t.Errorf("P11.2: Used(%d): %d", class, n)
			}
			if n := s.Pages(class); n != 0 {
				t.Errorf("P11.2: Pages(%d): %d", class, n)
			}
		}
	}
}

func TestOf(t *testing.T) {
	s := made(t, 7)
	want := slices.Repeat([]int{-1}, 64*9)
	for class, many := range pageChunks {
		takes(t, s, class, row(64*class, many)...)
		for place := range many {
			want[64+64*class+place] = class
		}
		frees(t, s, 64*class+many/2)
		want[64+64*class+many/2] = -1
	}
	if got := classesOf(s, 7); !slices.Equal(got, want) {
		t.Errorf("P11.2: Of: %v, want %v", got, want)
	}
	for _, c := range []int{math.MinInt, math.MinInt + 1, math.MaxInt, math.MaxInt - 63, 1 << 31, 1 << 32, 1<<32 + 1, -1 << 32} {
		if k := s.Of(c); k != -1 {
			t.Errorf("P11.2: Of(%d): %d", c, k)
		}
	}
}

func TestTwoSlabsShareNothing(t *testing.T) {
	a, b := made(t, 2), made(t, 2)
	takes(t, a, 5, 0, 1, 64)
	tells(t, b, 2, nil)
	takes(t, b, 1, 0)
	frees(t, a, 0)
	tells(t, a, 0, map[int][2]int{5: {2, 2}})
	tells(t, b, 1, map[int][2]int{1: {1, 1}})
}
