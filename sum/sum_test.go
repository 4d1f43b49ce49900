package sum

import (
	"bytes"
	"hash/crc32"
	"hash/fnv"
	"math/big"
	"strings"
	"testing"
)

// starts are numbers from which a sum is gone on with: small, great, and each single bit.
func starts() []uint32 {
	l := []uint32{0, 77, 0x7fffffff, 0xfffffffe, 0xffffffff, 2197175160, 3808858755}
	for i := range 32 {
		l = append(l, 1<<i)
	}
	return l
}

// every makes a list with every byte, in an order that is not rising.
func every() []byte {
	b := make([]byte, 256)
	for i := range b {
		b[i] = byte(i*167 + 13)
	}
	return b
}

// texts are keys and contents: nothing, each single byte, bytes 0 in all
// places, runes of several bytes, bytes that are no runes, a limit's length.
func texts() []string {
	l := []string{
		"", "a", "b", "ab", "ba", "foobar", "123456789",
		"\x00", "\x00\x00", "a\x00", "\x00a", "a\x00b", "ab\x00",
		"\x80", "\xff", "\xff\xfe", "\xc3", "\xc3\xa9", "é", "日本語", "\xef\xbf\xbd", "a\x80\x00\xffz",
		strings.Repeat("k", 249), strings.Repeat("k", 250), strings.Repeat("k", 251),
		strings.Repeat("\x00", 384), strings.Repeat("\xff", 384), strings.Repeat("0123456789", 500),
		string(every()),
	}
	for i := range 256 {
		l = append(l, string([]byte{byte(i)}))
	}
	return l
}

func TestCrcExamples(t *testing.T) {
	rising := make([]byte, 32)
	for i := range rising {
		rising[i] = byte(i)
	}
	for _, x := range []struct {
		b    string
		want uint32
	}{
		{"", 0},
		{"123456789", 3808858755},
		{"a", 0xc1d04330},
		{strings.Repeat("\x00", 32), 0x8a9136aa},
		{strings.Repeat("\xff", 32), 0x62a8ab43},
		{string(rising), 0x46dd794e},
	} {
		if c := Crc([]byte(x.b)); c != x.want {
			t.Errorf("P1.1: Crc(%q): %d, want %d", x.b, c, x.want)
		}
	}
}

func TestCrcOfNothing(t *testing.T) {
	for _, b := range [][]byte{nil, {}, []byte("abc")[:0]} {
		if c := Crc(b); c != 0 {
			t.Errorf("P1.1: Crc of nothing: %d", c)
		}
		for _, s := range starts() {
			if c := More(s, b); c != s {
				t.Errorf("P1.1: More(%d) of nothing: %d", s, c)
			}
		}
	}
}

func TestMoreFromAnyNumber(t *testing.T) {
	table := crc32.MakeTable(crc32.Castagnoli)
	for _, s := range texts() {
		b := []byte(s)
		if c, want := Crc(b), crc32.Checksum(b, table); c != want {
			t.Errorf("P1.1: Crc(%q): %d, want %d", s, c, want)
		}
		for _, from := range starts() {
			if c, want := More(from, b), crc32.Update(from, table, b); c != want {
				t.Errorf("P1.1: More(%d, %q): %d, want %d", from, s, c, want)
			}
		}
	}
}

// The promise's own words on one bit pattern after another, with a division instead of a shift.
func TestMoreByThePromise(t *testing.T) {
	for _, from := range starts() {
		for x := range 256 {
			c := uint64(4294967295-from) ^ uint64(x)
			for range 8 {
				odd := c%2 == 1
				c /= 2
				if odd {
					c ^= 2197175160
				}
			}
			if got, want := More(from, []byte{byte(x)}), uint32(4294967295-c); got != want {
				t.Errorf("P1.1: More(%d, [%d]): %d, want %d", from, x, got, want)
			}
		}
	}
}

func TestMoreCutAtAnyPlace(t *testing.T) {
	b := append([]byte("a text\x00that is cut\xff\x80 at any place"), every()...)
	for _, from := range []uint32{0, 77, 0xffffffff} {
		whole := More(from, b)
		single := from
		for i := range len(b) + 1 {
			if c := More(More(from, b[:i]), b[i:]); c != whole {
				t.Errorf("P1.1: from %d, cut at %d: %d, want %d", from, i, c, whole)
			}
			if i < len(b) {
				single = More(single, b[i:i+1])
			}
		}
		if single != whole {
			t.Errorf("P1.1: from %d, byte by byte: %d, want %d", from, single, whole)
		}
	}
	for i := range 40 {
		for j := i; j < 40; j++ {
			if More(More(Crc(b[:i]), b[i:j]), b[j:]) != Crc(b) {
				t.Errorf("P1.1: cut at %d and %d", i, j)
			}
		}
	}
}

// Each bit of what is summed counts.
func TestCrcTellsEachBit(t *testing.T) {
	b := every()
	want := Crc(b)
	for i := range b {
		for bit := range 8 {
			b[i] ^= 1 << bit
			if Crc(b) == want {
				t.Errorf("P1.1: byte %d, bit %d does not count", i, bit)
			}
			b[i] ^= 1 << bit
		}
	}
}

// R4: neither the list nor the room behind (or ahead of) it is changed.
func TestListIsNotChanged(t *testing.T) {
	for _, cut := range [][2]int{{0, 0}, {0, 100}, {50, 100}, {100, 256}, {256, 256}} {
		room := every()
		b := room[cut[0]:cut[1]]
		Crc(b)
		More(0xdeadbeef, b)
		if !bytes.Equal(room, every()) {
			t.Errorf("R4: the list %v is changed", cut)
		}
	}
}

// R4, R5: what was summed before, or is changed behind the call, does not count.
func TestNothingIsKept(t *testing.T) {
	b := every()
	first := Crc(b)
	clear(b)
	if Crc(b) == first {
		t.Errorf("R4: a list was kept")
	}
	if Crc(every()) != first {
		t.Errorf("R5: Crc hangs on a call ahead")
	}
	for _, s := range texts() {
		h, k := Hash(s), Second(s)
		Hash("another")
		Second("another")
		if Hash(s) != h || Second(s) != k {
			t.Errorf("R5: the hashes of %q hang on a call ahead", s)
		}
	}
}

// byHand folds with numbers that have no bound, and takes the modulus as a division.
func byHand(from string, b []byte) uint64 {
	h, _ := new(big.Int).SetString(from, 10)
	prime := big.NewInt(1099511628211)
	modulus := new(big.Int).Lsh(big.NewInt(1), 64)
	for _, x := range b {
		h.Xor(h, big.NewInt(int64(x)))
		h.Mul(h, prime)
		h.Mod(h, modulus)
	}
	return h.Uint64()
}

func TestHashExamples(t *testing.T) {
	for _, x := range []struct {
		key  string
		want uint64
	}{
		{"", 14695981039346656037},
		{"a", 12638187200555641996},
		{"foobar", 0x85944171f73967e8},
		{"\x00", 12638153115695167455},
	} {
		if h := Hash(x.key); h != x.want {
			t.Errorf("P1.1: Hash(%q): %d, want %d", x.key, h, x.want)
		}
	}
}

func TestHash(t *testing.T) {
	for _, s := range texts() {
		f := fnv.New64a()
		f.Write([]byte(s))
		if h := Hash(s); h != f.Sum64() || h != byHand("14695981039346656037", []byte(s)) {
			t.Errorf("P1.1: Hash(%q): %d, want %d", s, h, f.Sum64())
		}
	}
}

func TestSecond(t *testing.T) {
	for _, s := range texts() {
		want := byHand("1099511628211", append([]byte{0}, s...))
		if h := Second(s); h != want {
			t.Errorf("P1.1: Second(%q): %d, want %d", s, h, want)
		}
	}
}

// 1099511628211 squared, modulo 2^64: what the byte 0 alone makes of the beginning.
func TestSecondOfNothing(t *testing.T) {
	if h := Second(""); h != 956575116354345 {
		t.Errorf("P1.1: Second of nothing: %d", h)
	}
}

// Keys that differ only in bytes 0, or in bytes that are no runes, have hashes of their own.
func TestHashesTellKeysApart(t *testing.T) {
	for name, hash := range map[string]func(string) uint64{"Hash": Hash, "Second": Second} {
		seen := map[uint64]string{}
		for _, s := range []string{"", "\x00", "\x00\x00", "a", "a\x00", "\x00a", "\x80", "\xff", "\xc3", "\xef\xbf\xbd", "ab", "ba"} {
			h := hash(s)
			if other, there := seen[h]; there {
				t.Errorf("P1.1: %s of %q and %q is the same", name, s, other)
			}
			seen[h] = s
		}
	}
	if Hash("a") == Second("a") {
		t.Errorf("P1.1: Hash and Second are the same")
	}
}
