package dram

import (
	"fmt"
	"math"
	"slices"
	"strings"
	"testing"
	"unsafe"

	"cellaret/api"
)

// made makes a cache, and fails if that is refused.
func made(t *testing.T, pages int) *Cache {
	t.Helper()
	c, e := New(pages)
	if e != api.OK || c == nil {
		t.Fatalf("P14.1: New(%d): %v, %d", pages, c, e)
	}
	return c
}

// sized has an item whose record has so many bytes.
func sized(key string, size int, version uint64) api.Item {
	return api.Item{Key: key, Value: strings.Repeat("v", size-32-len(key)), Version: version}
}

// ofClass has an item of a class.
func ofClass(key string, class int, version uint64) api.Item {
	return sized(key, [6]int{50, 100, 200, 400, 800, 1050}[class], version)
}

// puts puts an item, and holds what is let go, and what is left, against the texts that are asked.
func puts(t *testing.T, c *Cache, x api.Item, clean bool, gone, left string) {
	t.Helper()
	l, e := c.Put(x, clean)
	if text(l) != gone || e != api.OK {
		t.Fatalf("P14.1: Put of %s%d: let go %q, %d, want %q", x.Key, x.Version, text(l), e, gone)
	}
	tells(t, c, left)
}

// tells holds Items and Len against the text that is asked.
func tells(t *testing.T, c *Cache, want string) {
	t.Helper()
	if got := text(c.Items()); got != want || c.Len() != len(strings.Fields(want)) {
		t.Fatalf("P14.2: Items: %q, Len %d, want %q", got, c.Len(), want)
	}
}

// gets asks for one that is there.
func gets(t *testing.T, c *Cache, x api.Item, now int64) {
	t.Helper()
	if y, ok := c.Get(x.Key, now); y != x || !ok {
		t.Fatalf("P14.2: Get(%q, %d): %+v, %v, want it", x.Key, now, y, ok)
	}
}

// getsNone asks for one that is not there, or dead.
func getsNone(t *testing.T, c *Cache, key string, now int64) {
	t.Helper()
	if y, ok := c.Get(key, now); y != (api.Item{}) || ok {
		t.Fatalf("P14.2: Get(%q, %d): %+v, %v, want none", key, now, y, ok)
	}
}

// peeksNone holds that a key is not there.
func peeksNone(t *testing.T, c *Cache, key string) {
	t.Helper()
	if y, ok := c.Peek(key); y != (Out{}) || ok {
		t.Fatalf("P14.2: Peek(%q): %+v, %v, want none", key, y, ok)
	}
}

// four has a full page of the class 4: hot d4, cold c3*, b2, a1*, none of them used.
func four(t *testing.T) *Cache {
	t.Helper()
	c := made(t, 1)
	puts(t, c, ofClass("a", 4, 1), true, "", "a1*")
	puts(t, c, ofClass("b", 4, 2), false, "", "b2 a1*")
	puts(t, c, ofClass("c", 4, 3), true, "", "c3* b2 a1*")
	puts(t, c, ofClass("d", 4, 4), false, "", "d4 c3* b2 a1*")
	return c
}

func TestNewAtTheEdges(t *testing.T) {
	for _, pages := range []int{0, -1, -2, -1024, 1025, 1026, 2048, 65536, 1 << 31, 1<<32 + 1, -1 << 31, math.MinInt, math.MinInt + 1, math.MaxInt} {
		if c, e := New(pages); c != nil || e != api.EARG {
			t.Errorf("P14.1: New(%d): %v, %d, want EARG", pages, c, e)
		}
	}
	for _, pages := range []int{1, 2, 3, 7, 512, 1000, 1023, 1024} {
		c := made(t, pages)
		tells(t, c, "")
		// There is room for two of the greatest class on each page, and for no more.
		for i := range 2 * pages {
			if l, e := c.Put(ofClass(fmt.Sprint(i), 5, 1), false); len(l) > 0 || e != api.OK {
				t.Fatalf("P14.1: New(%d): of item %d is let go %q, %d", pages, i, text(l), e)
			}
		}
		if l, e := c.Put(ofClass("x", 5, 1), false); text(l) != "01" || e != api.OK || c.Len() != 2*pages {
			t.Fatalf("P14.1: New(%d): on full pages %q is let go, %d", pages, text(l), e)
		}
	}
}

func TestNewHasNone(t *testing.T) {
	c := made(t, 3)
	for range 2 {
		tells(t, c, "")
		for _, key := range []string{"", "a", "\x00", strings.Repeat("k", 250), strings.Repeat("k", 251), strings.Repeat("k", 70000)} {
			getsNone(t, c, key, 0)
			peeksNone(t, c, key)
			if c.Delete(key) {
				t.Fatalf("P14.2: Delete of none: true")
			}
		}
		c.Clear()
	}
}

func TestChaptersExample(t *testing.T) {
	c := made(t, 1)
	long := strings.Repeat("k", 249)
	for i, gone := range []string{"", "", long + "a1"} {
		x := sized(long+string(rune('a'+i)), 1100, uint64(i+1))
		if l, e := c.Put(x, false); text(l) != gone || e != api.OK {
			t.Fatalf("P14.1: Put %d: let go %q, %d, want %q", i, text(l), e, gone)
		}
	}
	tells(t, c, long+"c3 "+long+"b2")
}

// noGood are items that are just past each of rec's bounds, and far past them.
func noGood(key string) []api.Item {
	return []api.Item{
		{},
		{Key: "", Value: "v", Version: 1},
		{Key: strings.Repeat("k", 251), Version: 1},
		{Key: strings.Repeat("k", 251), Value: strings.Repeat("v", 1025)},
		{Key: strings.Repeat("k", 256+10), Version: 1},
		{Key: strings.Repeat("k", 70000), Version: 1},
		{Key: key},
		{Key: key, Value: "v", Flags: 7, Exp: 7},
		{Key: key, Value: strings.Repeat("v", 1025), Version: 1},
		{Key: key, Value: strings.Repeat("v", 2015), Version: 1},
		{Key: key, Value: strings.Repeat("v", 2048), Version: 1},
		{Key: key, Value: strings.Repeat("v", 65536+5), Version: 1},
	}
}

// R3: a refused Put changes nothing, not even of the key's old item, nor of its use.
func TestPutOfWhatIsNotGood(t *testing.T) {
	for i, x := range noGood("a") {
		for _, clean := range []bool{false, true} {
			p := newPair(t, 2)
			for n, key := range []string{"a", "b", "c", "d"} {
				p.put(ofClass(key, 4, uint64(n+1)), n%2 == 0)
			}
			p.put(ofClass("e", 5, 5), true)
			p.get("a", 0)
			for range 2 {
				if l, e := p.c.Put(x, clean); len(l) > 0 || e != api.EARG {
					t.Fatalf("P14.1: Put of the wrong one of number %d: let go %q, %d", i, text(l), e)
				}
			}
			tells(t, p.c, "d4 c3* b2 a1* e5*")
			if y, ok := p.c.Peek("a"); y != (Out{ofClass("a", 4, 1), true}) || !ok {
				t.Fatalf("R3: behind the wrong one of number %d: Peek(a): %+v, %v", i, y, ok)
			}
			p.probe()
		}
	}
}

// What is just within rec's bounds is taken, whatever else it says.
func TestPutOfWhatIsJustGood(t *testing.T) {
	c := made(t, 4)
	for i, x := range []api.Item{
		{Key: "k", Version: 1},
		{Key: "\x00", Value: "\x00", Version: 1},
		{Key: " \r\n", Value: "\xff\xfe", Version: 2, Exp: -1},
		{Key: strings.Repeat("k", 250), Version: 1},
		{Key: "k", Value: strings.Repeat("v", 1024), Version: 1, Exp: math.MaxInt64},
		{Key: strings.Repeat("k", 250), Value: strings.Repeat("v", 1024), Flags: math.MaxUint32, Exp: math.MinInt64, Version: math.MaxUint64},
	} {
		for _, clean := range []bool{true, false} {
			if l, e := c.Put(x, clean); len(l) > 0 || e != api.OK {
				t.Fatalf("P14.1: Put of number %d: let go %q, %d", i, text(l), e)
			}
			if o, ok := c.Peek(x.Key); o != (Out{x, clean}) || !ok {
				t.Fatalf("P14.2: Peek of number %d: %+v, %v", i, o, ok)
			}
		}
	}
	if c.Len() != 4 {
		t.Fatalf("P14.2: Len: %d, want 4", c.Len())
	}
}

// Of each class' least and greatest items a page takes just as many as it has chunks of the class.
func TestBoundsOfTheClasses(t *testing.T) {
	for _, x := range []struct{ size, room, key int }{
		{33, 64, 1}, {34, 64, 2}, {63, 64, 3}, {64, 64, 3}, {65, 32, 3}, {127, 32, 3}, {128, 32, 3}, {129, 16, 3},
		{256, 16, 3}, {257, 8, 3}, {511, 8, 3}, {512, 8, 3}, {513, 4, 3}, {1023, 4, 3}, {1024, 4, 3},
		{1025, 2, 3}, {1057, 2, 1}, {64, 64, 32}, {65, 32, 33}, {282, 8, 250}, {1024, 4, 250}, {1025, 2, 250}, {1306, 2, 250},
	} {
		c := made(t, 1)
		name := func(i int) string { return strings.Repeat("k", x.key-1) + string([]byte{byte('0' + i)}) }
		for i := range x.room {
			if l, e := c.Put(sized(name(i), x.size, 1), false); len(l) > 0 || e != api.OK {
				t.Fatalf("P14.1: of %d bytes: number %d lets go %q, %d", x.size, i, text(l), e)
			}
		}
		if l, e := c.Put(sized(name(x.room), x.size, 1), false); text(l) != name(0)+"1" || e != api.OK || c.Len() != x.room {
			t.Fatalf("P14.1: of %d bytes: on a full page %q is let go, %d", x.size, text(l), e)
		}
	}
}

// Of each size, beside an item of another class: the one page is full of them, and the last one finds no room.
func TestEachSize(t *testing.T) {
	for size := 34; size <= 1058; size++ {
		p := newPair(t, 2)
		other := (classOf(sized("aa", size, 1)) + 1) % 6
		p.put(ofClass("o", other, 1), true)
		n := pageChunks[classOf(sized("aa", size, 1))]
		for i := range n + 1 {
			p.put(sized(string([]byte{'a', byte(i)}), size, uint64(i+1)), i%2 == 0)
		}
		if p.c.Len() != n+1 {
			t.Fatalf("P14.1: of %d bytes: %d are left", size, p.c.Len())
		}
		p.put(ofClass("p", other, 2), false)
		p.same()
	}
}

// A key that is there: its old item is gone first, and is never told, in the same class and in another.
func TestPutOfAKeyThatIsThere(t *testing.T) {
	c := made(t, 1)
	puts(t, c, ofClass("a", 5, 1), true, "", "a1*")
	puts(t, c, ofClass("b", 5, 2), true, "", "b2* a1*")
	// On a full page the old one's chunk is free for the new one.
	puts(t, c, ofClass("a", 5, 3), false, "", "a3 b2*")
	puts(t, c, ofClass("a", 5, 3), true, "", "a3* b2*")
	puts(t, c, ofClass("b", 5, 4), false, "", "b4 a3*")
	// For another class the page must be free: the other one is let go, the old one not.
	puts(t, c, ofClass("a", 4, 5), false, "b4", "a5")
	puts(t, c, ofClass("a", 0, 6), true, "", "a6*")
	puts(t, c, ofClass("a", 5, 7), true, "", "a7*")
	if o, ok := c.Peek("a"); o != (Out{ofClass("a", 5, 7), true}) || !ok {
		t.Fatalf("P14.2: Peek(a): %+v, %v", o, ok)
	}
	// A version that is less is no matter here.
	puts(t, c, ofClass("a", 5, 1), false, "", "a1")

	// The old one does not count where its class is asked for the most numbers.
	c = made(t, 3)
	for i, key := range []string{"a", "b", "c"} {
		c.Put(ofClass(key, 3, uint64(i+1)), false)
	}
	for i, key := range []string{"d", "e", "f"} {
		c.Put(ofClass(key, 4, uint64(i+4)), false)
	}
	puts(t, c, ofClass("g", 5, 7), false, "", "c3 b2 a1 f6 e5 d4 g7")
	// Without a the class 4 has the most; then, of both alike, it is 3's turn; and so on.
	puts(t, c, ofClass("a", 0, 8), false, "d4 b2 e5 c3", "a8 f6 g7")
}

// An item that is put again is new: its use of before does not count, nor does its clean.
func TestPutAgainIsNew(t *testing.T) {
	c := four(t)
	gets(t, c, ofClass("a", 4, 1), 0)
	puts(t, c, ofClass("a", 4, 5), false, "", "a5 d4 c3* b2")
	puts(t, c, ofClass("e", 4, 6), false, "b2", "e6 a5 d4 c3*")
	puts(t, c, ofClass("f", 4, 7), false, "c3*", "f7 e6 a5 d4")
	puts(t, c, ofClass("g", 4, 8), false, "d4", "g8 f7 e6 a5")
	puts(t, c, ofClass("h", 4, 9), false, "a5", "h9 g8 f7 e6")
}

// The new item's class lets one go, however many others there are.
func TestItsOwnClassLetsGo(t *testing.T) {
	c := made(t, 2)
	for i := range 64 {
		c.Put(ofClass(fmt.Sprint("s", i, "."), 0, 1), false)
	}
	small := text(c.Items())
	puts(t, c, ofClass("a", 5, 1), true, "", small+" a1*")
	puts(t, c, ofClass("b", 5, 2), false, "", small+" b2 a1*")
	puts(t, c, ofClass("c", 5, 3), false, "a1*", small+" c3 b2")
	puts(t, c, ofClass("d", 5, 4), false, "b2", small+" d4 c3")
	// And with one of them alone there is room in its class.
	c.Delete("c")
	puts(t, c, ofClass("e", 5, 5), false, "", small+" e5 d4")
	l, e := c.Put(ofClass("s", 0, 9), true)
	if text(l) != "s0.1" || e != api.OK || c.Len() != 66 {
		t.Fatalf("P14.1: of the small ones %q is let go, %d", text(l), e)
	}
}

// Where its class has none, the class that has the most lets go, of several the least; asked anew for each.
func TestTheClassThatHasTheMostLetsGo(t *testing.T) {
	c := made(t, 3)
	for i, key := range strings.Split("abcdefghij", "") {
		class := []int{5, 5, 4, 4, 4, 4, 3, 3, 3, 3}[i]
		c.Put(ofClass(key, class, uint64(i+1)), i%2 == 0)
	}
	tells(t, c, "j10 i9* h8 g7* f6 e5* d4 c3* b2 a1*")
	puts(t, c, ofClass("x", 0, 11), false, "g7* c3* h8 d4 i9* e5* a1* j10", "x11 f6 b2")
	// Now 0, 4 and 5 have one.
	puts(t, c, ofClass("y", 1, 12), false, "x11", "y12 f6 b2")
	puts(t, c, ofClass("z", 2, 13), false, "y12", "z13 f6 b2")
	// One that is put to a class that has some takes of them, or of their page.
	puts(t, c, ofClass("x", 2, 14), false, "", "x14 z13 f6 b2")
	puts(t, c, ofClass("y", 5, 15), false, "", "x14 z13 f6 y15 b2")
	puts(t, c, ofClass("w", 5, 16), true, "b2", "x14 z13 f6 w16* y15")
}

// A single one, and a whole page of the least chunks, let go by one Put.
func TestOneAndManyAreLetGo(t *testing.T) {
	c := made(t, 1)
	puts(t, c, ofClass("a", 0, 1), true, "", "a1*")
	puts(t, c, ofClass("b", 5, 2), false, "a1*", "b2")
	puts(t, c, ofClass("c", 0, 3), false, "b2", "c3")
	want := "c3"
	for i := range 63 {
		key := fmt.Sprint("k", i, ".")
		if l, e := c.Put(ofClass(key, 0, 4), i%3 == 0); len(l) > 0 || e != api.OK {
			t.Fatalf("P14.1: number %d lets go %q, %d", i, text(l), e)
		}
		want += fmt.Sprint(" k", i, ".4")
		if i%3 == 0 {
			want += "*"
		}
	}
	puts(t, c, ofClass("d", 1, 5), false, want, "d5")
}

// Used ones of the class that lets go are spared as its seg says.
func TestUsedOnesOfAnotherClassAreSpared(t *testing.T) {
	c := four(t)
	gets(t, c, ofClass("a", 4, 1), 0)
	gets(t, c, ofClass("b", 4, 2), 0)
	puts(t, c, ofClass("x", 3, 9), false, "c3* a1* b2 d4", "x9")
}

func TestGetIsAUseAndPeekIsNone(t *testing.T) {
	c := four(t)
	gets(t, c, ofClass("a", 4, 1), 0)
	tells(t, c, "d4 c3* b2 a1*")
	puts(t, c, ofClass("e", 4, 5), false, "b2", "e5 a1* d4 c3*")

	c = four(t)
	for range 3 {
		if o, ok := c.Peek("a"); o != (Out{ofClass("a", 4, 1), true}) || !ok {
			t.Fatalf("P14.2: Peek(a): %+v, %v", o, ok)
		}
		tells(t, c, "d4 c3* b2 a1*")
	}
	puts(t, c, ofClass("e", 4, 5), false, "a1*", "e5 d4 c3* b2")

	// Nor is Items or Len, or a Get of another key.
	c = four(t)
	c.Items()
	getsNone(t, c, "aa", 0)
	gets(t, c, ofClass("b", 4, 2), 0)
	puts(t, c, ofClass("e", 4, 5), false, "a1*", "e5 d4 c3* b2")
	puts(t, c, ofClass("f", 4, 6), false, "c3*", "f6 b2 e5 d4")
}

// One that is used while it is hot becomes warm.
func TestUseWhileItIsHot(t *testing.T) {
	c := four(t)
	gets(t, c, ofClass("d", 4, 4), 0)
	puts(t, c, ofClass("e", 4, 5), false, "a1*", "e5 d4 c3* b2")
	puts(t, c, ofClass("f", 4, 6), false, "b2", "f6 d4 e5 c3*")
	puts(t, c, ofClass("g", 4, 7), false, "c3*", "g7 d4 f6 e5")
	puts(t, c, ofClass("h", 4, 8), false, "e5", "h8 d4 g7 f6")
}

var times = []int64{math.MinInt64, math.MinInt64 + 1, -1000, -2, -1, 0, 1, 2, 999, 1000, 1001, math.MaxInt64 - 1, math.MaxInt64}

func TestDeadAtAllTimes(t *testing.T) {
	c := made(t, 1)
	for _, exp := range times {
		for _, now := range times {
			x := ofClass("a", 0, 1)
			x.Exp = exp
			want := exp != 0 && now >= exp
			if got := c.Dead(x, now); got != want {
				t.Fatalf("P14.2: Dead of Exp %d at %d: %v", exp, now, got)
			}
			if got := c.Dead(api.Item{Exp: exp}, now); got != want {
				t.Fatalf("P14.2: Dead of an item that may not be, Exp %d, at %d: %v", exp, now, got)
			}
			tells(t, c, "")
			c.Put(x, true)
			if want {
				getsNone(t, c, "a", now)
				tells(t, c, "")
				peeksNone(t, c, "a")
				continue
			}
			gets(t, c, x, now)
			gets(t, c, x, now)
			tells(t, c, "a1*")
			c.Delete("a")
		}
	}
}

// Around its time: the second ahead it is there, at its time and behind it not.
func TestGetAroundItsTime(t *testing.T) {
	for _, exp := range []int64{100, 1, -1, -100} {
		for _, class := range []int{0, 3, 5} {
			c := made(t, 1)
			x := ofClass("a", class, 1)
			x.Exp = exp
			c.Put(x, false)
			gets(t, c, x, exp-1)
			getsNone(t, c, "a", exp)
			getsNone(t, c, "a", exp-1)
			c.Put(x, false)
			getsNone(t, c, "a", exp+1)
			getsNone(t, c, "a", exp-1)
		}
	}
}

// A dead one is gone behind a Get: its chunk and its key are free, and it is never told as let go.
func TestDeadOneIsGoneBehindAGet(t *testing.T) {
	c := made(t, 1)
	a, b := ofClass("a", 5, 1), ofClass("b", 5, 2)
	a.Exp = 50
	c.Put(a, false)
	c.Put(b, false)
	getsNone(t, c, "a", 50)
	tells(t, c, "b2")
	peeksNone(t, c, "a")
	if c.Delete("a") {
		t.Fatalf("P14.2: Delete of one that is gone: true")
	}
	puts(t, c, ofClass("c", 5, 3), false, "", "c3 b2")
	puts(t, c, ofClass("d", 5, 4), false, "b2", "d4 c3")
	// A page of dead ones is free for another class.
	c = made(t, 1)
	c.Put(a, false)
	getsNone(t, c, "a", 51)
	puts(t, c, ofClass("e", 0, 5), false, "", "e5")
}

// As long as no Get comes, a dead one stays: Put, Peek, Items and Len ask for no time.
func TestDeadOneStaysTillAGet(t *testing.T) {
	c := made(t, 1)
	a := ofClass("a", 5, 1)
	a.Exp = math.MinInt64
	puts(t, c, a, true, "", "a1*")
	for range 2 {
		if o, ok := c.Peek("a"); o != (Out{a, true}) || !ok {
			t.Fatalf("P14.2: Peek of a dead one: %+v, %v", o, ok)
		}
	}
	puts(t, c, ofClass("b", 5, 2), false, "", "b2 a1*")
	puts(t, c, ofClass("c", 5, 3), false, "a1*", "c3 b2")
	puts(t, c, a, false, "b2", "a1 c3")
	if !c.Delete("a") {
		t.Fatalf("P14.2: Delete of a dead one: false")
	}
	tells(t, c, "c3")
}

func TestDelete(t *testing.T) {
	c := four(t)
	for _, key := range []string{"", "A", "aa", "e", "a\x00", strings.Repeat("k", 300)} {
		if c.Delete(key) {
			t.Fatalf("P14.2: Delete(%q), which is not there: true", key)
		}
	}
	tells(t, c, "d4 c3* b2 a1*")
	for _, x := range [][2]string{{"c", "d4 b2 a1*"}, {"a", "d4 b2"}, {"d", "b2"}, {"b", ""}} {
		if !c.Delete(x[0]) {
			t.Fatalf("P14.2: Delete(%q), which is there: false", x[0])
		}
		tells(t, c, x[1])
		peeksNone(t, c, x[0])
		getsNone(t, c, x[0], 0)
		if c.Delete(x[0]) {
			t.Fatalf("P14.2: Delete(%q), the second time: true", x[0])
		}
	}
	// All chunks are free, and so the page is.
	puts(t, c, ofClass("a", 5, 5), false, "", "a5")
}

// Each chunk that is free by a Delete is taken ahead of anything that is let go.
func TestDeleteFreesItsChunk(t *testing.T) {
	for class, n := range pageChunks {
		for at := range n {
			p := newPair(t, 1)
			for i := range n {
				p.put(ofClass(fmt.Sprint(i), class, 1), i%2 == 0)
			}
			p.delete(fmt.Sprint(at))
			if gone, _ := p.put(ofClass("new", class, 2), false); len(gone) > 0 {
				t.Fatalf("P14.1: %q is let go, though a chunk is free", text(gone))
			}
			if gone, _ := p.put(ofClass("next", class, 3), false); len(gone) != 1 {
				t.Fatalf("P14.1: on a full page %q is let go", text(gone))
			}
			p.same()
		}
	}
}

func TestClear(t *testing.T) {
	c := made(t, 3)
	for round := range 3 {
		c.Clear()
		tells(t, c, "")
		for i := range 150 {
			c.Put(ofClass(fmt.Sprint("k", i), (i/3+round)%6, 1), i%2 == 0)
		}
		if c.Len() < 3 {
			t.Fatalf("P14.1: %d are left", c.Len())
		}
	}
	keys := c.Items()
	c.Clear()
	tells(t, c, "")
	for _, x := range keys {
		peeksNone(t, c, x.Item.Key)
		getsNone(t, c, x.Item.Key, 0)
		if c.Delete(x.Item.Key) {
			t.Fatalf("P14.2: Delete(%q) behind Clear: true", x.Item.Key)
		}
	}
	for i := range 6 {
		if l, e := c.Put(ofClass(fmt.Sprint(i), 5, 1), false); len(l) > 0 || e != api.OK {
			t.Fatalf("P14.2: behind Clear %q is let go, %d", text(l), e)
		}
	}
}

// Pages stay with their classes behind Clear: page 1 is 5's, so its items stand there first, then on page 0.
func TestPagesStayBehindClear(t *testing.T) {
	c := made(t, 2)
	puts(t, c, ofClass("y", 0, 1), false, "", "y1")
	puts(t, c, ofClass("z", 5, 2), false, "", "y1 z2")
	c.Clear()
	puts(t, c, ofClass("a", 5, 3), false, "", "a3")
	puts(t, c, ofClass("b", 5, 4), false, "", "b4 a3")
	puts(t, c, ofClass("c", 5, 5), false, "", "c5 b4 a3")
	c.Delete("a")
	// The least free chunk is on page 0 now, beside c; so page 1 is free when b is gone.
	puts(t, c, ofClass("d", 5, 6), false, "", "d6 c5 b4")
	c.Delete("b")
	puts(t, c, ofClass("e", 0, 7), false, "", "e7 d6 c5")

	// Without what stood there ahead of Clear page 0 would be 5's first, and no page free at the end.
	c = made(t, 2)
	puts(t, c, ofClass("a", 5, 3), false, "", "a3")
	puts(t, c, ofClass("b", 5, 4), false, "", "b4 a3")
	puts(t, c, ofClass("c", 5, 5), false, "", "c5 b4 a3")
	c.Delete("a")
	puts(t, c, ofClass("d", 5, 6), false, "", "d6 c5 b4")
	c.Delete("b")
	puts(t, c, ofClass("e", 0, 7), false, "c5", "e7 d6")
}

// Uses and lists of before Clear do not count behind it.
func TestClearForgetsUses(t *testing.T) {
	c := four(t)
	for i, key := range []string{"a", "b", "c", "d"} {
		gets(t, c, ofClass(key, 4, uint64(i+1)), 0)
	}
	c.Clear()
	for i, key := range []string{"a", "b", "c", "d"} {
		c.Put(ofClass(key, 4, uint64(i+5)), false)
	}
	puts(t, c, ofClass("e", 4, 9), false, "a5", "e9 d8 c7 b6")
	puts(t, c, ofClass("f", 4, 10), false, "b6", "f10 e9 d8 c7")
}

// Items: the classes from 0 on, whatever came first; of each hot, warm, cold, each from its head on.
func TestItemsByClass(t *testing.T) {
	c := made(t, 6)
	for class := 5; class >= 0; class-- {
		c.Put(ofClass(fmt.Sprint("c", class, "."), class, 1), class%2 == 0)
	}
	tells(t, c, "c0.1* c1.1 c2.1* c3.1 c4.1* c5.1")

	c = made(t, 1)
	for i, key := range strings.Split("abcdefgh", "") {
		puts(t, c, ofClass(key, 3, uint64(i+1)), false, "", strings.TrimSpace(fmt.Sprint(key, i+1, " ", text(c.Items()))))
	}
	gets(t, c, ofClass("b", 3, 2), 0)
	puts(t, c, ofClass("i", 3, 9), true, "a1", "i9* h8 g7 f6 e5 d4 c3 b2")
	// b is spared: it is warm, behind the two hot ones.
	puts(t, c, ofClass("j", 3, 10), false, "c3", "j10 i9* b2 h8 g7 f6 e5 d4")
	gets(t, c, ofClass("j", 3, 10), 0)
	gets(t, c, ofClass("d", 3, 4), 0)
	puts(t, c, ofClass("k", 3, 11), false, "e5", "k11 j10 d4 b2 i9* h8 g7 f6")
	puts(t, c, ofClass("l", 3, 12), false, "f6", "l12 k11 j10 d4 b2 i9* h8 g7")
	puts(t, c, ofClass("m", 3, 13), false, "g7", "m13 l12 j10 d4 b2 k11 i9* h8")
}

// With the greatest number of pages, all of them full of the least chunks.
func TestAllPagesFullOfTheLeast(t *testing.T) {
	c := made(t, 1024)
	for i := range 65536 {
		if l, e := c.Put(ofClass(fmt.Sprint(i), 0, 1), false); len(l) > 0 || e != api.OK {
			t.Fatalf("P14.1: number %d lets go %q, %d", i, text(l), e)
		}
	}
	if l, e := c.Put(ofClass("x", 0, 1), true); text(l) != "01" || e != api.OK || c.Len() != 65536 {
		t.Fatalf("P14.1: on full pages %q is let go, %d", text(l), e)
	}
	// One of the greatest needs a page. On page 0 stands x, which is hot: so its other 63 and page 1's 64 are let go.
	l, e := c.Put(ofClass("y", 5, 1), true)
	if e != api.OK || len(l) != 63+64 || text(l[:2]) != "11 21" || c.Len() != 65536-len(l)+1 {
		t.Fatalf("P14.1: %d are let go, %d are left, %d", len(l), c.Len(), e)
	}
	c.Clear()
	tells(t, c, "")
}

// spoil changes a list and all room behind it.
func spoil(l []Out) {
	l = l[:cap(l)]
	for i := range l {
		l[i] = Out{Item: api.Item{Key: "spoilt", Version: 99}, Clean: true}
	}
}

// R4: what was told may be changed, with the room behind it, and nothing else hears of it.
func TestListsAreTheCallersOwn(t *testing.T) {
	c := four(t)
	spoil(c.Items())
	tells(t, c, "d4 c3* b2 a1*")
	l, _ := c.Put(ofClass("x", 0, 5), false)
	other := slices.Clone(l)
	told := c.Items()
	for i := range 200 {
		more, _ := c.Put(ofClass(fmt.Sprint("k", i), i%6, 1), true)
		spoil(more)
		spoil(c.Items())
		c.Delete(fmt.Sprint("k", i-3))
	}
	c.Clear()
	if !slices.Equal(l, other) || text(l) != "a1* b2 c3* d4" {
		t.Fatalf("R4: what was told as let go changed to %q", text(l))
	}
	if text(told) != "x5" {
		t.Fatalf("R4: what Items told changed to %q", text(told))
	}
	spoil(l)
	spoil(told)
	tells(t, c, "")

	p := newPair(t, 2)
	for i := range 300 {
		gone, _ := p.c.Put(ofClass(fmt.Sprint("k", i%40), i/7%6, uint64(i+1)), i%2 == 0)
		want, _ := p.w.put(ofClass(fmt.Sprint("k", i%40), i/7%6, uint64(i+1)), i%2 == 0)
		if !slices.Equal(gone, want) {
			t.Fatalf("P14.1: let go %q, want %q", text(gone), text(want))
		}
		spoil(gone)
		spoil(p.c.Items())
		p.same()
	}
}

// What is kept shares no memory with what was handed in: a short text may be a piece of a long one.
func TestTextsHandedInAreNotKept(t *testing.T) {
	c := made(t, 1)
	x := ofClass("abc", 3, 1)
	x.Key = strings.Repeat("long", 100)[1:4]
	c.Put(x, false)
	y, _ := c.Get(x.Key, 0)
	if y != x {
		t.Fatalf("P14.2: Get: %+v", y)
	}
	if unsafe.StringData(y.Value) == unsafe.StringData(x.Value) || unsafe.StringData(y.Key) == unsafe.StringData(x.Key) {
		t.Fatalf("R4: a text that was handed in is kept")
	}
}

func TestTwoShareNothing(t *testing.T) {
	c, other := four(t), made(t, 1)
	tells(t, other, "")
	puts(t, other, ofClass("a", 4, 9), false, "", "a9")
	other.Delete("a")
	tells(t, c, "d4 c3* b2 a1*")
	c.Clear()
	puts(t, other, ofClass("b", 4, 9), false, "", "b9")
	tells(t, c, "")
}

// Going tells what Put would let go, and lets nothing go, however often it is asked.
func TestGoing(t *testing.T) {
	p := newPair(t, 1)
	if l := p.c.Going(ofClass("z", 0, 9)); len(l) > 0 {
		t.Errorf("P14.1: Going of an empty one: %q", text(l))
	}
	for i, key := range []string{"a", "b", "c", "d"} {
		p.put(ofClass(key, 4, uint64(i+1)), i%2 == 0)
	}
	p.get("a", 0) // so b leaves ahead of it
	p.same()
	for range 3 {
		for i, c := range []struct {
			x    api.Item
			want string
		}{
			{ofClass("z", 4, 9), "b2"},
			{ofClass("b", 4, 9), ""},
			{ofClass("b", 5, 9), "c3* a1* d4"},
			{ofClass("z", 5, 9), "b2 c3* a1* d4"},
			{ofClass("z", 0, 9), "b2 c3* a1* d4"},
			{ofClass("", 5, 9), ""},
			{ofClass("z", 5, 0), ""},
		} {
			l := p.c.Going(c.x)
			if text(l) != c.want {
				t.Errorf("P14.1: Going of number %d: %q, want %q", i, text(l), c.want)
			}
			for k := range l[:cap(l)] {
				l[:cap(l)][k] = Out{} // it is the caller's
			}
			p.same()
		}
	}
	p.probe()
}

// It changes nothing that is told later, and does not take long with very many.
func TestGoingOfMany(t *testing.T) {
	p := made(t, 1024)
	for i := range 1024 * 64 {
		if l := p.Going(ofClass(fmt.Sprint("k", i), 0, 1)); len(l) > 0 {
			t.Fatalf("P14.1: Going of number %d: %q", i, text(l))
		}
		p.Put(ofClass(fmt.Sprint("k", i), 0, 1), false)
	}
	for _, class := range []int{0, 5} {
		x := ofClass("z", class, 1)
		going := p.Going(x)
		if gone, _ := p.Put(x, false); !slices.Equal(going, gone) || len(gone) == 0 {
			t.Errorf("P14.1: Put of class %d: let go %q, and Going told %q", class, text(gone), text(going))
		}
	}
}
