package bloom

import (
	"fmt"
	"math"
	"math/big"
	"math/rand"
	"slices"
	"strings"
	"testing"

	"cellaret/api"
)

// shapes are bits and turns: both ends of each, powers of two, and what is a multiple of neither 8 nor 64.
func shapes() [][2]int {
	var l [][2]int
	for _, bits := range []int{8, 9, 10, 11, 12, 13, 15, 16, 21, 63, 64, 65, 100, 105, 127, 128, 129, 255, 256, 257, 1000, 4095, 32769, 65535, 65536} {
		for turns := 1; turns <= 8; turns++ {
			l = append(l, [2]int{bits, turns})
		}
	}
	return l
}

// keys are nothing, each single byte, bytes 0 in all places, runes, bytes that are no runes, and long ones.
func keys() []string {
	l := []string{
		"", "ab", "ba", "key", "a b\r\n", "a\x00", "\x00a", "\x00\x00", "a\x00b",
		"\xff\xfe", "\xc3\xa9", "日本語", "\xef\xbf\xbd", "a\x80\x00\xffz",
		strings.Repeat("k", 249), strings.Repeat("k", 250), strings.Repeat("k", 251),
		strings.Repeat("\x00", 384), strings.Repeat("\xff", 384), strings.Repeat("0123456789", 500),
	}
	for i := range 256 {
		l = append(l, string([]byte{byte(i)}))
	}
	return l
}

// named makes n keys, no two of them the same.
func named(n int) []string {
	var l []string
	for i := range n {
		l = append(l, fmt.Sprintf("key %d of \xff", i*i))
	}
	return l
}

var all64 = new(big.Int).Lsh(big.NewInt(1), 64)

// hashed is chapter 1's Hash and Second, by its words, in numbers that never run over.
func hashed(begin string, key string) *big.Int {
	h, _ := new(big.Int).SetString(begin, 10)
	prime := big.NewInt(1099511628211)
	for i := range len(key) {
		h.Xor(h, big.NewInt(int64(key[i])))
		h.Mod(h.Mul(h, prime), all64)
	}
	return h
}

// known keeps what numbers reckoned: long keys are asked for again and again.
var known = map[string][2]*big.Int{}

// numbers are a key's Hash, and its Second with its lowest bit set.
func numbers(key string) (hash, step *big.Int) {
	l, ok := known[key]
	if !ok {
		step = hashed("1099511628211", "\x00"+key)
		l = [2]*big.Int{hashed("14695981039346656037", key), step.SetBit(step, 0, 1)}
		known[key] = l
	}
	return l[0], l[1]
}

// reckoned are a key's bits by the chapter's words, k by k.
func reckoned(bits, turns int, key string) []int {
	hash, step := numbers(key)
	var l []int
	for k := range turns {
		x := new(big.Int).Mul(step, big.NewInt(int64(k)))
		x.Mod(x.Add(x, hash), all64)
		l = append(l, int(x.Mod(x, big.NewInt(int64(bits))).Int64()))
	}
	return l
}

// apart tells how many different ones there are.
func apart(l []int) int {
	return len(slices.Compact(slices.Sorted(slices.Values(l))))
}

// set is what a filter should hold: a plain list of bits.
type set struct {
	bits, turns int
	on          []bool
}

func newSet(bits, turns int) set { return set{bits, turns, make([]bool, bits)} }

func (s set) add(key string) {
	for _, i := range reckoned(s.bits, s.turns, key) {
		s.on[i] = true
	}
}

func (s set) may(key string) bool {
	return !slices.ContainsFunc(reckoned(s.bits, s.turns, key), func(i int) bool { return !s.on[i] })
}

func (s set) rising() []int {
	var l []int
	for i, on := range s.on {
		if on {
			l = append(l, i)
		}
	}
	return l
}

func filter(t *testing.T, bits, turns int) *Filter {
	t.Helper()
	f, e := New(bits, turns)
	if e != api.OK || f == nil {
		t.Fatalf("P7.1: New(%d, %d): %v, %d", bits, turns, f, e)
	}
	return f
}

// holds holds Count and Bits against what they should be.
func holds(t *testing.T, what string, f *Filter, want []int) {
	t.Helper()
	if l := f.Bits(); !slices.Equal(l, want) {
		t.Errorf("P7.1: %s: Bits: %v, want %v", what, l, want)
	}
	if n := f.Count(); n != len(want) {
		t.Errorf("P7.1: %s: Count: %d, want %d", what, n, len(want))
	}
}

func may(t *testing.T, what string, f *Filter, key string, want bool) {
	t.Helper()
	if got := f.May(key); got != want {
		t.Errorf("P7.1: %s: May(%.20q): %t, want %t", what, key, got, want)
	}
}

func TestExamples(t *testing.T) {
	f := filter(t, 64, 2)
	may(t, "example", f, "a", false)
	f.Add("a")
	may(t, "example", f, "a", true)
	holds(t, "example", f, []int{12, 37})
}

func TestNewAtTheEdges(t *testing.T) {
	edges := []int{math.MinInt, math.MinInt + 1, math.MinInt32, -65536, -64, -9, -8, -7, -2, -1, 0, 1, 2, 7, 8, 9, 63, 64, 65, 100, 65535, 65536, 65537, 131072, math.MaxInt32, math.MaxUint32 + 1 + 64, math.MaxInt - 1, math.MaxInt}
	for _, bits := range edges {
		for _, turns := range edges {
			if bits >= 8 && bits <= 65536 && turns >= 1 && turns <= 8 {
				f := filter(t, bits, turns)
				holds(t, fmt.Sprintf("New(%d, %d)", bits, turns), f, nil)
				may(t, "a new one", f, "", false)
				continue
			}
			f, e := New(bits, turns)
			if e != api.EARG {
				t.Errorf("P7.1: New(%d, %d): %d, want EARG", bits, turns, e)
			}
			if f != nil {
				t.Errorf("R2: New(%d, %d): a filter beside the error %d", bits, turns, e)
			}
		}
	}
}

func TestNewHasNone(t *testing.T) {
	for _, s := range shapes() {
		f := filter(t, s[0], s[1])
		holds(t, fmt.Sprintf("a new one of %v", s), f, nil)
		for _, k := range keys() {
			may(t, fmt.Sprintf("a new one of %v", s), f, k, false)
		}
	}
}

// The bits of some keys as numbers, worked out by a script outside the module.
func TestBitsAsNumbers(t *testing.T) {
	for _, x := range []struct {
		key         string
		bits, turns int
		want        []int
	}{
		{"", 64, 2, []int{37, 14}},
		{"", 65536, 8, []int{8997, 1614, 59767, 52384, 45001, 37618, 30235, 22852}},
		{"a", 8, 1, []int{4}},
		{"a", 100, 5, []int{96, 13, 30, 47, 64}},
		{"a", 65535, 8, []int{65086, 55593, 46100, 36607, 27114, 17621, 8128, 64170}},
		{"key", 100, 5, []int{48, 25, 2, 95, 72}},
		{"key", 65535, 8, []int{53033, 35870, 18707, 1545, 49917, 32754, 15591, 63963}},
		{"\x00", 100, 5, []int{55, 30, 5, 80}},
		{"\xff\xfe", 65535, 8, []int{53063, 58900, 64736, 5038, 10874, 16710, 22547, 28383}},
		{"a b\r\n", 65536, 8, []int{1093, 64382, 62135, 59888, 57641, 55394, 53147, 50900}},
	} {
		f := filter(t, x.bits, x.turns)
		f.Add(x.key)
		holds(t, fmt.Sprintf("%q in (%d, %d)", x.key, x.bits, x.turns), f, slices.Sorted(slices.Values(x.want)))
		may(t, "as numbers", f, x.key, true)
	}
}

// Each key alone in a filter of each shape: its bits are set, and no other.
func TestBitsOfEachKey(t *testing.T) {
	for _, s := range shapes() {
		f := filter(t, s[0], s[1])
		for _, k := range keys() {
			want := newSet(s[0], s[1])
			want.add(k)
			f.Add(k)
			holds(t, fmt.Sprintf("%.20q alone in %v", k, s), f, want.rising())
			may(t, fmt.Sprintf("alone in %v", s), f, k, true)
			f.Clear()
		}
	}
}

// A key whose sum runs over, where the modulo of the whole sum would be another bit.
func TestSumsThatRunOver(t *testing.T) {
	for _, bits := range []int{9, 100, 1000, 65535} {
		for k := 1; k < 8; k++ {
			seen := 0
			for _, key := range named(60) {
				hash, step := numbers(key)
				x := new(big.Int).Mul(step, big.NewInt(int64(k)))
				x.Add(x, hash)
				right := reckoned(bits, k+1, key)
				if wrong := int(x.Mod(x, big.NewInt(int64(bits))).Int64()); wrong == right[k] {
					continue
				}
				seen++
				f := filter(t, bits, k+1)
				f.Add(key)
				holds(t, fmt.Sprintf("%q in (%d, %d)", key, bits, k+1), f, slices.Compact(slices.Sorted(slices.Values(right))))
			}
			if seen == 0 {
				t.Errorf("no sum runs over in (%d, %d)", bits, k+1)
			}
		}
	}
}

// Keys whose Second has its lowest bit set already, and keys where it has not.
func TestLowestBitOfSecond(t *testing.T) {
	var seen [2]int
	for _, key := range named(40) {
		seen[hashed("1099511628211", "\x00"+key).Bit(0)]++
		f := filter(t, 65536, 2)
		f.Add(key)
		l := f.Bits()
		if len(l) != 2 || (l[0]+l[1])%2 != 1 {
			t.Errorf("P7.1: %q: Bits: %v: two that an odd step parts", key, l)
		}
		holds(t, "an odd step", f, slices.Sorted(slices.Values(reckoned(65536, 2, key))))
	}
	if seen[0] == 0 || seen[1] == 0 {
		t.Errorf("of the keys' Second %d are even, %d odd", seen[0], seen[1])
	}
}

// With each number of different bits from 1 on there is a key whose eight bits fall together to it.
func TestBitsThatFallTogether(t *testing.T) {
	var seen [9]int
	for _, bits := range []int{9, 10, 12, 15, 21, 105} {
		for _, key := range named(400) {
			l := reckoned(bits, 8, key)
			n := apart(l)
			seen[n]++
			f := filter(t, bits, 8)
			f.Add(key)
			holds(t, fmt.Sprintf("%q in %d bits", key, bits), f, slices.Compact(slices.Sorted(slices.Values(l))))
			if f.Count() != n {
				t.Errorf("P7.1: %q in %d bits: Count: %d, want %d", key, bits, f.Count(), n)
			}
			may(t, "bits that fall together", f, key, true)
		}
	}
	if seen[1] == 0 || seen[3] == 0 || seen[5] == 0 || seen[8] == 0 {
		t.Errorf("bits that fall together: %v", seen)
	}
}

func TestLongKeys(t *testing.T) {
	long := strings.Repeat("0123456789abcdef\x00\xff", 60000)
	f := filter(t, 65535, 8)
	for _, key := range []string{long, long[1:], long[:len(long)-1]} {
		may(t, "a long key", f, key, false)
		f.Add(key)
		may(t, "a long key", f, key, true)
	}
	want := newSet(65535, 8)
	for _, key := range []string{long, long[1:], long[:len(long)-1]} {
		want.add(key)
	}
	holds(t, "long keys", f, want.rising())
}

// All bits but one of a key are set, whichever it is: May says no, till that one is set by another key.
func TestOneBitLacks(t *testing.T) {
	others := named(3000)
	for _, s := range [][2]int{{8, 1}, {64, 2}, {100, 5}, {256, 3}, {257, 8}} {
		for _, key := range []string{"", "a", "\xff\xfe", "not told"} {
			for k, lacks := range reckoned(s[0], s[1], key) {
				what := fmt.Sprintf("%q in %v without its bit %d", key, s, k)
				f := filter(t, s[0], s[1])
				last := ""
				for _, o := range others {
					if slices.Contains(reckoned(s[0], s[1], o), lacks) {
						last = o
					} else {
						f.Add(o)
					}
				}
				if l := f.Bits(); len(l) != s[0]-1 || slices.Contains(l, lacks) {
					t.Fatalf("P7.1: %s: Bits: %v", what, l)
				}
				may(t, what, f, key, false)
				f.Add(last)
				may(t, what+", set by another", f, key, true)
				if f.Count() != s[0] {
					t.Errorf("P7.1: %s: Count: %d of a full one", what, f.Count())
				}
			}
		}
	}
}

// May changes nothing, and neither do Count and Bits; Add of a key twice is Add of it once.
func TestTwice(t *testing.T) {
	for _, s := range shapes() {
		f, want := filter(t, s[0], s[1]), newSet(s[0], s[1])
		for _, key := range named(5) {
			want.add(key)
			for range 2 {
				f.Add(key)
				for range 2 {
					holds(t, fmt.Sprintf("Add of %q to %v", key, s), f, want.rising())
					may(t, "behind Add", f, key, true)
					may(t, "behind Add", f, "x"+key, want.may("x"+key))
				}
			}
		}
	}
}

func TestFull(t *testing.T) {
	for _, s := range [][2]int{{8, 8}, {8, 1}, {9, 3}, {65, 1}, {100, 5}, {1000, 8}, {65536, 8}} {
		f := filter(t, s[0], s[1])
		for i := 0; f.Count() < s[0] && i < 200*s[0]; i += 1 + s[0]/10 {
			for k := range 1 + s[0]/10 {
				f.Add(fmt.Sprint(i + k))
			}
		}
		var want []int
		for i := range s[0] {
			want = append(want, i)
		}
		holds(t, fmt.Sprintf("a full one of %v", s), f, want)
		for _, key := range keys() {
			may(t, fmt.Sprintf("a full one of %v", s), f, key, true)
			f.Add(key)
		}
		holds(t, fmt.Sprintf("more in a full one of %v", s), f, want)
		f.Clear()
		holds(t, fmt.Sprintf("a full one of %v, cleared", s), f, nil)
	}
}

func TestOrderTellsNothing(t *testing.T) {
	r := rand.New(rand.NewSource(7))
	for _, s := range [][2]int{{64, 2}, {100, 5}, {65535, 8}} {
		l := named(20)
		want := newSet(s[0], s[1])
		for _, key := range l {
			want.add(key)
		}
		for range 20 {
			r.Shuffle(len(l), func(a, b int) { l[a], l[b] = l[b], l[a] })
			f := filter(t, s[0], s[1])
			for _, key := range l {
				f.Add(key)
			}
			holds(t, fmt.Sprintf("%v in any order", s), f, want.rising())
		}
	}
}

func TestClear(t *testing.T) {
	for _, s := range shapes() {
		f := filter(t, s[0], s[1])
		f.Clear()
		holds(t, fmt.Sprintf("Clear of a new one of %v", s), f, nil)
		l := named(6)
		for round := range 3 {
			for _, key := range l {
				f.Add(key)
			}
			f.Clear()
			holds(t, fmt.Sprintf("Clear of %v", s), f, nil)
			for _, key := range l {
				may(t, fmt.Sprintf("behind Clear of %v", s), f, key, false)
			}
			want := newSet(s[0], s[1])
			want.add(l[round])
			f.Add(l[round])
			holds(t, fmt.Sprintf("Add behind Clear of %v", s), f, want.rising())
			may(t, "Add behind Clear", f, l[round], true)
			may(t, "Add behind Clear", f, l[5], want.may(l[5]))
		}
	}
}

// spoil changes a list, and its spare room, wholly.
func spoil(l []int) {
	l = l[:cap(l)]
	for i := range l {
		l[i] = -7
	}
}

func TestBitsIsNew(t *testing.T) {
	for _, s := range shapes() {
		f, want := filter(t, s[0], s[1]), newSet(s[0], s[1])
		spoil(append(f.Bits(), 1, 2, 3))
		holds(t, "an answer that was changed", f, nil)
		for _, key := range named(6) {
			kept := f.Bits()
			ahead := slices.Clone(kept)
			f.Add(key)
			want.add(key)
			spoil(f.Bits())
			spoil(append(f.Bits(), 1, 2, 3))
			holds(t, "an answer that was changed", f, want.rising())
			may(t, "an answer that was changed", f, key, true)
			if !slices.Equal(kept, ahead) {
				t.Errorf("R4: an answer of Bits is another behind Add: %v, want %v", kept, ahead)
			}
		}
		kept := f.Bits()
		f.Clear()
		if !slices.Equal(kept, want.rising()) {
			t.Errorf("R4: an answer of Bits is another behind Clear: %v, want %v", kept, want.rising())
		}
	}
}

// What one filter is told, another is not.
func TestFiltersAreApart(t *testing.T) {
	a, b := filter(t, 100, 5), filter(t, 100, 5)
	a.Add("a")
	holds(t, "another one", b, nil)
	may(t, "another one", b, "a", false)
	b.Add("key")
	a.Clear()
	holds(t, "another one cleared", b, []int{2, 25, 48, 72, 95})
}

// Long runs of all calls, held against a plain list of bits.
func TestLongRuns(t *testing.T) {
	for seed := range int64(200) {
		r := rand.New(rand.NewSource(seed))
		bits, turns := 8+r.Intn(300), 1+r.Intn(8)
		f, want := filter(t, bits, turns), newSet(bits, turns)
		var told []string
		for range 60 {
			key := make([]byte, r.Intn(12))
			r.Read(key)
			switch r.Intn(10) {
			case 0:
				f.Clear()
				want, told = newSet(bits, turns), nil
			case 1, 2, 3, 4:
				f.Add(string(key))
				want.add(string(key))
				told = append(told, string(key))
			}
			may(t, fmt.Sprintf("run %d", seed), f, string(key), want.may(string(key)))
			holds(t, fmt.Sprintf("run %d", seed), f, want.rising())
		}
		for _, key := range told {
			may(t, fmt.Sprintf("run %d, told", seed), f, key, true)
		}
	}
}
