package table

import (
	"bytes"
	"fmt"
	"math"
	"slices"
	"strings"
	"testing"

	"cellaret/api"
)

// made makes a table, and fails if that is refused.
func made(t *testing.T, buckets int) *Table {
	t.Helper()
	x, e := New(buckets)
	if e != api.OK || x == nil {
		t.Fatalf("P12.1: New(%d): %v, %d", buckets, x, e)
	}
	return x
}

// sizes are all that a new table may have.
func sizes() []int {
	var l []int
	for n := 1; n <= 1024; n *= 2 {
		l = append(l, n)
	}
	return l
}

// living finds keys that live in one of so many buckets, as many as are asked.
func living(buckets, at, many int) []string {
	var l []string
	for i := 0; len(l) < many; i++ {
		if key := fmt.Sprint("k", i); home(key, buckets) == at {
			l = append(l, key)
		}
	}
	return l
}

// sets sets keys that are new, each to its place in the list.
func sets(t *testing.T, x *Table, keys ...string) {
	t.Helper()
	for i, key := range keys {
		if !x.Set(key, i) {
			t.Fatalf("P12.1: Set(%q), which is new: false", key)
		}
	}
}

// tells holds the three numbers that a table tells of itself.
func tells(t *testing.T, x *Table, keys, buckets, left int) {
	t.Helper()
	if got, want := counts(x), fmt.Sprint(keys, " in ", buckets, ", left ", left); got != want {
		t.Fatalf("P12.2: %s, want %s", got, want)
	}
}

// has holds what Get answers of a key that is there.
func has(t *testing.T, x *Table, key string, want int) {
	t.Helper()
	if v, ok := x.Get(key); v != want || !ok {
		t.Fatalf("P12.1: Get(%q): %d, %v, want %d, true", key, v, ok, want)
	}
}

// hasNone holds what Get answers of a key that is not there.
func hasNone(t *testing.T, x *Table, key string) {
	t.Helper()
	if v, ok := x.Get(key); v != 0 || ok {
		t.Fatalf("P12.1: Get(%q): %d, %v, want 0, false", key, v, ok)
	}
}

// chainIs holds the keys of one chain.
func chainIs(t *testing.T, x *Table, i int, want ...string) {
	t.Helper()
	if l := x.Chain(i); !slices.Equal(l, want) {
		t.Fatalf("P12.2: Chain(%d): %q, want %q", i, l, want)
	}
}

// filled has as many keys as a table of so many buckets takes ahead of its growth.
func filled(t *testing.T, buckets int) (*Table, []string) {
	t.Helper()
	x := made(t, buckets)
	var l []string
	for i := range 3 * buckets / 2 {
		l = append(l, fmt.Sprint("f", i))
	}
	sets(t, x, l...)
	tells(t, x, len(l), buckets, 0)
	return x, l
}

// grown has grown just now, with the key "last".
func grown(t *testing.T, buckets int) (*Table, []string) {
	t.Helper()
	x, l := filled(t, buckets)
	sets(t, x, "last")
	tells(t, x, len(l)+1, 2*buckets, buckets)
	return x, append(l, "last")
}

// anyKeys are keys with any bytes: nothing, each single byte, noughts in all places, runes of several
// bytes, bytes that are no runes, beginnings of one another, long ones.
func anyKeys() []string {
	l := []string{
		"", "ab", "ba", "abc", "aé", "é", "日本語", "\xef\xbf\xbd", "\xc3\xa9a", "\xc3\xc3",
		"\x00\x00", "a\x00", "\x00a", "a\x00b", "ab\x00", "\xff\xfe", "\xff\xff", "a b", "a\r\n", " a",
		strings.Repeat("k", 250), strings.Repeat("k", 251), strings.Repeat("k", 5000), strings.Repeat("\x00", 384),
	}
	for i := range 256 {
		l = append(l, string([]byte{byte(i)}))
	}
	return l
}

func TestNew(t *testing.T) {
	for _, n := range sizes() {
		x := made(t, n)
		tells(t, x, 0, n, 0)
		if l := x.Keys(); len(l) != 0 {
			t.Errorf("P12.1: Keys of a new one: %q", l)
		}
		for i := -1; i <= n; i++ {
			chainIs(t, x, i)
		}
		for _, key := range anyKeys() {
			hasNone(t, x, key)
			if x.Delete(key) {
				t.Errorf("P12.1: Delete(%q) of a new one: true", key)
			}
		}
		tells(t, x, 0, n, 0)
	}
}

func TestNewOfWrongNumbers(t *testing.T) {
	wrong := []int{0, -1, -2, -4, -1024, 2048, 4096, 65536, 1 << 31, 1 << 32, 1<<32 + 1, 1 << 62, 1<<62 + 1,
		math.MinInt, math.MinInt + 1, math.MinInt32, math.MaxInt32, math.MaxInt - 1, math.MaxInt}
	for n := 1; n <= 2100; n++ {
		if !slices.Contains(sizes(), n) {
			wrong = append(wrong, n)
		}
	}
	for _, n := range wrong {
		if x, e := New(n); x != nil || e != api.EARG {
			t.Errorf("P12.1: New(%d): %v, %d, want nil, EARG", n, x, e)
		}
	}
}

func TestChaptersExample(t *testing.T) {
	x := made(t, 1)
	sets(t, x, "a")
	tells(t, x, 1, 1, 0)
	sets(t, x, "b")
	tells(t, x, 2, 2, 1)
	sets(t, x, "c")
	tells(t, x, 3, 2, 0)
}

func TestSetGetDeleteOfAnyKeys(t *testing.T) {
	for _, n := range sizes() {
		x := made(t, n)
		sets(t, x, anyKeys()...)
		if x.Len() != len(anyKeys()) {
			t.Fatalf("P12.1: Len: %d, want %d", x.Len(), len(anyKeys()))
		}
		for i, key := range anyKeys() {
			has(t, x, key, i)
			if x.Set(key, -i) {
				t.Fatalf("P12.1: Set(%q), which is there: true", key)
			}
			has(t, x, key, -i)
		}
		for i, key := range anyKeys() {
			if !x.Delete(key) || x.Delete(key) {
				t.Fatalf("P12.1: Delete(%q) is not true once and then false", key)
			}
			hasNone(t, x, key)
			if left := len(anyKeys()) - i - 1; x.Len() != left || len(x.Keys()) != left {
				t.Fatalf("P12.1: Len: %d, %d keys, want %d", x.Len(), len(x.Keys()), left)
			}
			if i+1 < len(anyKeys()) {
				has(t, x, anyKeys()[i+1], -i-1)
			}
		}
		sets(t, x, anyKeys()...)
	}
}

func TestSetTakesAnyNumber(t *testing.T) {
	x := made(t, 2)
	for i, v := range []int{0, 1, -1, math.MinInt, math.MaxInt, math.MaxInt32 + 1, 1 << 40, 0} {
		if isNew := x.Set("k", v); isNew != (i == 0) {
			t.Errorf("P12.1: Set(k, %d), time %d: %v", v, i, isNew)
		}
		has(t, x, "k", v)
		tells(t, x, 1, 2, 0)
	}
	hasNone(t, x, "K")
	hasNone(t, x, "")
	hasNone(t, x, "kk")
}

// A key that comes again behind its Delete is new, and has no number of before.
func TestKeyThatComesAgain(t *testing.T) {
	x := made(t, 4)
	for i := range 5 {
		sets(t, x, "other", "k")
		x.Set("k", i+7)
		if !x.Delete("k") {
			t.Fatalf("P12.1: Delete of one that is there: false")
		}
		hasNone(t, x, "k")
		has(t, x, "other", 0)
		x.Delete("other")
		tells(t, x, 0, 4, 0)
	}
}

func TestKeysByTheirBytes(t *testing.T) {
	want := []string{"", "\x00", "\x00\x00", "\x00a", "\x01", " ", "0", "10", "2", "A", "B", "Z", "a", "a\x00", "aa", "ab", "b", "é", "日", "\xff", "\xff\xff"}
	for _, n := range sizes() {
		for step := range len(want) {
			x := made(t, n)
			for i := range want {
				x.Set(want[(i*(step+1)+step)%len(want)], i)
			}
			for _, key := range want {
				x.Set(key, 5)
			}
			if l := x.Keys(); !slices.Equal(l, want) {
				t.Fatalf("P12.1: Keys: %q, want %q", l, want)
			}
		}
	}
}

// R4: what was told may be changed, with the room behind it, and nothing else hears of it.
func TestRowsAreTheCallersOwn(t *testing.T) {
	x := made(t, 8)
	sets(t, x, living(8, 3, 5)...)
	sets(t, x, living(8, 0, 3)...)
	ahead := state(x)
	for _, ask := range []func() []string{x.Keys, func() []string { return x.Chain(3) }, func() []string { return x.Chain(0) }, func() []string { return x.Chain(1) }} {
		mine, kept := ask(), ask()
		want := slices.Clone(kept)
		mine = mine[:cap(mine)]
		for i := range mine {
			mine[i] = "spoiled"
		}
		_ = append(mine[:0], "more", "and more")
		if !slices.Equal(kept, want) {
			t.Errorf("R4: two rows share memory: %q, want %q", kept, want)
		}
		if behind := state(x); behind != ahead {
			t.Errorf("R4: a row is the table's own: of %s it made %s", ahead, behind)
		}
	}
	rows := [][]string{x.Keys(), x.Chain(3), x.Chain(0)}
	told := fmt.Sprint(rows)
	for i := range 40 {
		x.Set(fmt.Sprint("later", i), i)
		x.Delete(living(8, 3, 5)[i%5])
	}
	if fmt.Sprint(rows) != told {
		t.Errorf("R4: a row that was told changes: of %s it made %v", told, rows)
	}
}

// A key's bucket hangs on its Hash alone.
func TestKeyStandsInItsBucket(t *testing.T) {
	for _, n := range sizes() {
		for _, key := range anyKeys() {
			x := made(t, n)
			sets(t, x, key)
			for i := range n {
				if i == home(key, n) {
					chainIs(t, x, i, key)
				} else if i%37 == 0 || i == n-1 {
					chainIs(t, x, i)
				}
			}
		}
	}
	x := made(t, 1024)
	// 12638187200555641996 is the chapter's number of a, and 140 its last ten bits; 14695981039346656037's are 805.
	sets(t, x, "a", "")
	chainIs(t, x, 140, "a")
	chainIs(t, x, 805, "")
}

func TestChainOfNone(t *testing.T) {
	for _, n := range []int{1, 2, 64, 1024} {
		x, _ := grown(t, n)
		for _, i := range []int{-1, -2, -n, 2 * n, 2*n + 1, 65536, 1 << 32, -1 << 32, math.MinInt, math.MaxInt} {
			if l := x.Chain(i); len(l) != 0 {
				t.Errorf("P12.2: Chain(%d) of %d buckets: %q", i, x.Buckets(), l)
			}
		}
	}
}

func TestChainHasTheLastFirst(t *testing.T) {
	x := made(t, 8)
	l := living(8, 5, 6)
	sets(t, x, l...)
	chainIs(t, x, 5, l[5], l[4], l[3], l[2], l[1], l[0])
	// What is there already is not added again.
	for _, key := range []string{l[0], l[5], l[2]} {
		x.Set(key, 9)
		chainIs(t, x, 5, l[5], l[4], l[3], l[2], l[1], l[0])
	}
	x.Delete(l[2])
	chainIs(t, x, 5, l[5], l[4], l[3], l[1], l[0])
	x.Delete(l[5])
	x.Delete(l[0])
	chainIs(t, x, 5, l[4], l[3], l[1])
	sets(t, x, l[0])
	chainIs(t, x, 5, l[0], l[4], l[3], l[1])
	x.Get(l[1])
	chainIs(t, x, 5, l[0], l[4], l[3], l[1])
	tells(t, x, 4, 8, 0)
}

func TestGrowsAboveOneAndAHalf(t *testing.T) {
	for _, n := range sizes() {
		x := made(t, n)
		for i := 0; 2*i <= 3*n; i++ {
			tells(t, x, i, n, 0)
			sets(t, x, fmt.Sprint("f", i))
		}
		tells(t, x, 3*n/2+1, 2*n, n)
		// None of the old ones is moved till the next change.
		for i := range 2 * n {
			chainIs(t, x, i)
		}
		if len(x.Keys()) != x.Len() {
			t.Fatalf("P12.1: of %d keys %d are told", x.Len(), len(x.Keys()))
		}
	}
}

func TestOnlyAnAddedKeyLetsItGrow(t *testing.T) {
	for _, n := range sizes() {
		x, l := filled(t, n)
		for _, key := range l {
			x.Set(key, 1)
			x.Delete("nobody")
			x.Get("nobody")
			tells(t, x, len(l), n, 0)
		}
		// As many Sets as may be, but never more keys.
		for i := range 2 * n {
			x.Delete(l[0])
			tells(t, x, len(l)-1, n, 0)
			l = append(l[1:], fmt.Sprint("again", i))
			sets(t, x, l[len(l)-1])
			tells(t, x, len(l), n, 0)
		}
		sets(t, x, "last")
		tells(t, x, len(l)+1, 2*n, n)
	}
}

// It has no fewer buckets again, and grows next by what it has now.
func TestStaysAsGreatAsItIs(t *testing.T) {
	x, l := grown(t, 8)
	for i, key := range l {
		x.Delete(key)
		tells(t, x, len(l)-i-1, 16, max(0, 8-i-1))
	}
	for i := range 24 {
		sets(t, x, fmt.Sprint("new", i))
		tells(t, x, i+1, 16, 0)
	}
	sets(t, x, "one more")
	tells(t, x, 25, 32, 16)
}

// changes are the four kinds of Set and Delete; each tells how many keys more there are.
func changes(x *Table, there string, i int) []func() int {
	return []func() int{
		func() int { x.Set(fmt.Sprint("new", i), i); return 1 },
		func() int { x.Set(there, i); return 0 },
		func() int { x.Delete(fmt.Sprint("nobody", i)); return 0 },
		func() int { x.Delete(there); return -1 },
	}
}

func TestEachChangeMovesOne(t *testing.T) {
	for _, n := range sizes() {
		for kind := range 5 {
			x, l := grown(t, n)
			keys := len(l)
			for i := range n {
				k := kind
				if kind == 4 {
					k = i % 4
				}
				keys += changes(x, l[i], i)[k]()
				tells(t, x, keys, 2*n, n-i-1)
			}
			// Nothing is left, so nothing is moved any more.
			x.Delete("nobody")
			tells(t, x, keys, 2*n, 0)
		}
	}
}

func TestAskingMovesNone(t *testing.T) {
	x, l := grown(t, 16)
	for left := 16; left >= 0; left-- {
		ahead := state(x)
		for range 3 {
			for i, key := range l {
				has(t, x, key, i%24)
			}
			hasNone(t, x, "nobody")
			x.Keys()
			chains(x)
			x.Chain(-1)
			x.Chain(32)
			tells(t, x, 25, 32, left)
		}
		if behind := state(x); behind != ahead {
			t.Fatalf("P12.2: asking made of %s %s", ahead, behind)
		}
		x.Delete("nobody")
	}
}

// Of the old buckets the least goes first, and its keys one by one from its first on.
func TestLeastOldBucketIsMovedFirst(t *testing.T) {
	const n = 8
	x := made(t, n)
	for i := range 13 {
		sets(t, x, fmt.Sprint("k", i))
	}
	tells(t, x, 13, 2*n, n)
	for moved := range n + 1 {
		for i := range 2 * n {
			if i%n >= moved {
				chainIs(t, x, i)
				continue
			}
			// What was added first stood last in its old bucket, so it is moved last and stands first.
			var want []string
			for k := range 13 {
				if key := fmt.Sprint("k", k); home(key, 2*n) == i {
					want = append(want, key)
				}
			}
			chainIs(t, x, i, want...)
		}
		x.Delete("nobody")
	}
}

func TestMovedChainIsTurnedRound(t *testing.T) {
	x := made(t, 2)
	// Three of the bucket 1 of 2, all of them of the bucket 3 of 4 and of 8.
	l := living(8, 7, 3)
	sets(t, x, l...)
	chainIs(t, x, 1, l[2], l[1], l[0])
	four := living(8, 0, 1)[0]
	sets(t, x, four)
	tells(t, x, 4, 4, 2)
	x.Set(l[0], 5)
	tells(t, x, 4, 4, 1)
	chainIs(t, x, 0, four)
	chainIs(t, x, 3)
	x.Set(l[0], 6)
	tells(t, x, 4, 4, 0)
	chainIs(t, x, 1)
	chainIs(t, x, 3, l[0], l[1], l[2])
	more := living(8, 1, 3)
	sets(t, x, more...)
	tells(t, x, 7, 8, 4)
	for range 4 {
		chainIs(t, x, 7)
		x.Delete("nobody")
	}
	chainIs(t, x, 7, l[2], l[1], l[0])
	chainIs(t, x, 1, more[0], more[1], more[2])
	chainIs(t, x, 3)
	has(t, x, l[0], 6)
}

func TestSetOfAKeyWhoseOldBucketIsLeft(t *testing.T) {
	x, l := grown(t, 8)
	// Two that live in the old bucket 7, one in each of its halves, and one of the bucket 0.
	low, high, none := "low", "high", "none"
	for i := 0; home(low, 16) != 7; i++ {
		low = fmt.Sprint("low", i)
	}
	for i := 0; home(high, 16) != 15; i++ {
		high = fmt.Sprint("high", i)
	}
	for i := 0; home(none, 8) != 0; i++ {
		none = fmt.Sprint("none", i)
	}
	x.Set(low, 1)
	x.Set(high, 2)
	tells(t, x, 15, 16, 6)
	chainIs(t, x, 7)
	chainIs(t, x, 15)
	has(t, x, low, 1)
	has(t, x, high, 2)
	if k := x.Keys(); !slices.Contains(k, low) || !slices.Contains(k, high) || len(k) != 15 {
		t.Fatalf("P12.1: Keys: %q", k)
	}
	if x.Set(low, 3) || x.Set(high, 4) {
		t.Fatalf("P12.1: Set of one that is there, in an old bucket: true")
	}
	has(t, x, low, 3)
	has(t, x, high, 4)
	tells(t, x, 15, 16, 4)
	// The old bucket 0 is moved, so this one stands with the new ones at once, ahead of those that were moved.
	x.Set(none, 5)
	tells(t, x, 16, 16, 3)
	if c := x.Chain(home(none, 16)); len(c) == 0 || c[0] != none {
		t.Fatalf("P12.2: Chain(%d): %q, want %q first", home(none, 16), c, none)
	}
	for range 3 {
		chainIs(t, x, 7)
		chainIs(t, x, 15)
		x.Delete("nobody")
	}
	// They stood first in the old bucket, so they stand last now.
	for i, key := range map[int]string{7: low, 15: high} {
		if c := x.Chain(i); len(c) == 0 || c[len(c)-1] != key {
			t.Fatalf("P12.2: Chain(%d): %q, want %q last", i, c, key)
		}
	}
	has(t, x, low, 3)
	has(t, x, high, 4)
	for i, key := range l[:len(l)-1] {
		has(t, x, key, i)
	}
}

// A key whose old bucket is moved by its own Set stands with the new ones, ahead of those that were moved.
func TestSetOfAKeyWhoseOldBucketIsMovedFirst(t *testing.T) {
	for least := range 8 {
		x := made(t, 8)
		l := living(16, least, 13)
		sets(t, x, l...)
		tells(t, x, 13, 16, 8)
		for range least {
			x.Delete("nobody")
		}
		chainIs(t, x, least)
		next := living(16, least, 14)[13]
		sets(t, x, next)
		tells(t, x, 14, 16, 8-least-1)
		chainIs(t, x, least, append([]string{next}, l...)...)
		if x.Set(l[4], 44) {
			t.Fatalf("P12.1: Set of one that was moved: true")
		}
		has(t, x, l[4], 44)
	}
}

func TestDeleteOfAKeyWhoseOldBucketIsLeft(t *testing.T) {
	for gone := range 5 {
		x := made(t, 8)
		l := living(16, 15, 5)
		sets(t, x, l...)
		for i := range 8 {
			sets(t, x, living(16, 1, 8)[i])
		}
		tells(t, x, 13, 16, 8)
		if !x.Delete(l[gone]) || x.Delete(l[gone]) {
			t.Fatalf("P12.1: Delete of one in an old bucket is not true once and then false")
		}
		tells(t, x, 12, 16, 6)
		hasNone(t, x, l[gone])
		if slices.Contains(x.Keys(), l[gone]) {
			t.Fatalf("P12.1: Keys has %q, which is deleted", l[gone])
		}
		for range 6 {
			chainIs(t, x, 15)
			x.Delete("nobody")
		}
		hasNone(t, x, l[gone])
		chainIs(t, x, 15, slices.Delete(slices.Clone(l), gone, gone+1)...)
		sets(t, x, l[gone])
		chainIs(t, x, 15, append([]string{l[gone]}, slices.Delete(slices.Clone(l), gone, gone+1)...)...)
	}
}

// A key whose old bucket is moved by its own Delete is gone from the new ones.
func TestDeleteOfAKeyWhoseOldBucketIsMovedFirst(t *testing.T) {
	for gone := range 13 {
		x := made(t, 8)
		l := living(16, 8, 13)
		sets(t, x, l...)
		if !x.Delete(l[gone]) {
			t.Fatalf("P12.1: Delete of one that is moved first: false")
		}
		tells(t, x, 12, 16, 7)
		chainIs(t, x, 8, slices.Delete(slices.Clone(l), gone, gone+1)...)
		hasNone(t, x, l[gone])
	}
}

// All keys in one chain, whose beginnings, ends and lengths are the same.
func TestKeysOfOneBucketAreToldApart(t *testing.T) {
	for _, n := range []int{1, 2, 64, 1024} {
		x := made(t, n)
		l := living(2048, 2047, 40)
		sets(t, x, l...)
		for i, key := range l {
			has(t, x, key, i)
		}
		for i, key := range l {
			if !x.Delete(key) {
				t.Fatalf("P12.1: Delete(%q): false", key)
			}
			for k, other := range l {
				if k <= i {
					hasNone(t, x, other)
				} else {
					has(t, x, other, k)
				}
			}
		}
	}
}

// R4: a key that is a piece of bytes which change later is kept as it was.
func TestKeyIsKeptAsItWas(t *testing.T) {
	x := made(t, 4)
	b := []byte("a key that was read")
	x.Set(string(b[2:5]), 7)
	copy(b, bytes.Repeat([]byte{'x'}, len(b)))
	has(t, x, "key", 7)
	if l := x.Keys(); !slices.Equal(l, []string{"key"}) {
		t.Errorf("R4: Keys: %q", l)
	}
}

func TestTwoTablesShareNothing(t *testing.T) {
	x, y := made(t, 2), made(t, 2)
	sets(t, x, "a", "b", "c", "d")
	tells(t, x, 4, 4, 2)
	tells(t, y, 0, 2, 0)
	hasNone(t, y, "a")
	y.Set("a", 9)
	y.Delete("b")
	has(t, x, "a", 0)
	has(t, x, "b", 1)
	tells(t, x, 4, 4, 2)
}
