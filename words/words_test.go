package words

import (
	"fmt"
	"math"
	"math/big"
	"strings"
	"testing"
	"unsafe"

	"cellaret/api"
)

// part is a piece of a text: a well formed rune with its bytes, or one byte that is none.
type part struct {
	text string
	rune int
	ok   bool
}

// parts cuts a text by the definition of the form, byte by byte, without the language's own way.
func parts(s string) []part {
	var l []part
	for len(s) > 0 {
		p := first(s)
		l = append(l, p)
		s = s[len(p.text):]
	}
	return l
}

func first(s string) part {
	least := []int{0, 0x80, 0x800, 0x10000} // what needs as many bytes behind the first
	heads := []struct{ mask, head byte }{{0x80, 0}, {0xe0, 0xc0}, {0xf0, 0xe0}, {0xf8, 0xf0}}
	for behind, h := range heads {
		if s[0]&h.mask != h.head || len(s) <= behind {
			continue
		}
		n, ok := int(s[0]&^h.mask), true
		for i := 1; i <= behind; i++ {
			n = n<<6 | int(s[i]&0x3f)
			ok = ok && s[i]&0xc0 == 0x80
		}
		if ok && n >= least[behind] && n <= 0x10ffff && (n < 0xd800 || n > 0xdfff) {
			return part{s[:behind+1], n, true}
		}
	}
	return part{s[:1], -1, false}
}

// edges are the bytes at which the form changes, and those that the calls look for.
const edges = "\x00\x1f !\"-0\\a~\x7f\x80\x8f\x90\x9f\xa0\xa8\xa9\xbd\xbf\xc0\xc1\xc2\xdf\xe0\xe2\xed\xee\xef\xf0\xf4\xf5\xff"

// texts hands each text of at most two bytes, and each of three or four of the edges, to try.
func texts(try func(s string)) {
	try("")
	for a := range 256 {
		try(string([]byte{byte(a)}))
		for b := range 256 {
			try(string([]byte{byte(a), byte(b)}))
		}
	}
	for a := range len(edges) {
		for b := range len(edges) {
			for c := range len(edges) {
				try(string([]byte{edges[a], edges[b], edges[c]}))
				for d := range len(edges) {
					try(string([]byte{edges[a], edges[b], edges[c], edges[d]}))
				}
			}
		}
	}
}

func TestRunesEdges(t *testing.T) {
	for _, x := range []struct {
		s    string
		n    int
		form bool
	}{
		{"", 0, true},
		{"a", 1, true},
		{"\x00", 1, true},
		{"aä€😀", 4, true},
		{"\x7f\u0080\u07ff\u0800\ud7ff\ue000\uffff\U00010000\U0010ffff", 9, true},
		{"\uFFFD", 1, true},
		{"\xef\xbf\xbd\xef\xbf\xbd", 2, true},
		{"a\uFFFDb", 3, true},
		{"\uFFFD\xff", 2, false},
		{"\xff\uFFFD", 2, false},
		{"\xef\xbf", 2, false},                 // U+FFFD, cut off
		{"\xef\xbfa", 3, false},                // and something else behind
		{"\xef\xbf\xef\xbf\xbd", 3, false},     // one cut off ahead of one that is whole
		{"\x80", 1, false},                     // none begins so
		{"\xff\xfe", 2, false},                 //
		{"\xc3", 1, false},                     // cut off
		{"\xc3a", 2, false},                    //
		{"a\xe2\x82", 3, false},                //
		{"\xf0\x9f\x98", 3, false},             //
		{"\xc0\x80", 2, false},                 // too long a form
		{"\xc1\xbf", 2, false},                 //
		{"\xe0\x9f\xbf", 3, false},             //
		{"\xf0\x8f\xbf\xbf", 4, false},         //
		{"\xed\xa0\x80", 3, false},             // the first half of a pair
		{"\xed\xbf\xbf", 3, false},             // the last
		{"\xed\xa0\xbd\xed\xb8\x80", 6, false}, // both
		{"\xf4\x90\x80\x80", 4, false},         // above the last rune
		{"\xf5\x80\x80\x80", 4, false},         //
		{"\xf8\x88\x80\x80\x80", 5, false},     // forms that are no more
		{"\xff" + strings.Repeat("a", 1000), 1001, false},
		{strings.Repeat("a", 1000) + "\xff", 1001, false},
		{strings.Repeat("é", 1<<20), 1 << 20, true},
	} {
		if n, ok := Runes(x.s); n != x.n || ok != x.form {
			t.Errorf("P2.1: Runes(%.40q): %d %v, want %d %v", x.s, n, ok, x.n, x.form)
		}
	}
}

func TestRunesByTheForm(t *testing.T) {
	texts(func(s string) {
		l, all := parts(s), true
		for _, p := range l {
			all = all && p.ok
		}
		if n, ok := Runes(s); n != len(l) || ok != all {
			t.Fatalf("P2.1: Runes(%q): %d %v, want %d %v", s, n, ok, len(l), all)
		}
	})
}

// mayBe tells which runes a key may have.
func mayBe(r int) bool {
	switch {
	case r >= 0 && r <= 32, r == 127, r >= 128 && r <= 160, r == 8232, r == 8233:
		return false
	}
	return r >= 0
}

func TestKeyOfEveryRune(t *testing.T) {
	for r := range 0x110000 {
		if r >= 0xd800 && r <= 0xdfff {
			continue
		}
		s := string(rune(r))
		for _, k := range []string{s, s + "a", "a" + s, "a" + s + "é"} {
			if Key(k) != mayBe(r) {
				t.Errorf("P2.1: Key(%q), with the rune %d: %v", k, r, !mayBe(r))
			}
		}
	}
}

func TestKeyByTheForm(t *testing.T) {
	texts(func(s string) {
		want := s != ""
		for _, p := range parts(s) {
			want = want && p.ok && mayBe(p.rune)
		}
		if Key(s) != want {
			t.Fatalf("P2.1: Key(%q): %v", s, !want)
		}
	})
}

func TestKeyLengths(t *testing.T) {
	if api.MaxKey != 250 {
		t.Fatalf("MaxKey: %d", api.MaxKey)
	}
	for _, x := range []struct {
		s    string
		want bool
	}{
		{"", false},
		{"a", true},
		{strings.Repeat("k", 249), true},
		{strings.Repeat("k", 250), true},
		{strings.Repeat("k", 251), false},
		{strings.Repeat("k", 100000), false},
		{strings.Repeat("é", 125), true}, // bytes are counted, not runes
		{strings.Repeat("é", 125) + "k", false},
		{strings.Repeat("é", 126), false},
		{strings.Repeat("€", 83) + "k", true},
		{strings.Repeat("€", 83) + "é", false},
		{strings.Repeat("😀", 62) + "kk", true},
		{strings.Repeat("😀", 63), false},
		{strings.Repeat("k", 249) + " ", false},
		{strings.Repeat("k", 249) + "\xff", false},
		{strings.Repeat("k", 248) + "\xc3\xa9", true},
		{strings.Repeat("k", 249) + "\xc3", false},
	} {
		if Key(x.s) != x.want {
			t.Errorf("P2.1: Key of %d bytes (%.20q ..): %v", len(x.s), x.s, !x.want)
		}
	}
}

func TestKeyExamples(t *testing.T) {
	for s, want := range map[string]bool{
		"a": true, "a b": false, "\xff": false, "\uFFFD": true, "a\uFFFD": true, "a\uFFFD\xff": false,
		"\xe2\x80": false, "\xc0\x80": false, "\xed\xa0\x80": false, "\xf4\x90\x80\x80": false,
		"!": true, " ": false, "~": true, "\x7f": false, "\u0080": false, "\u00a0": false, "\u00a1": true,
		"\u2027": true, "\u2028": false, "\u2029": false, "\u202a": true, "a\r\n": false, "\"\\": true,
	} {
		if Key(s) != want {
			t.Errorf("P2.1: Key(%q): %v", s, !want)
		}
	}
}

// runs cuts a line by bytes.
func runs(line string) []string {
	var l []string
	for i := 0; i < len(line); {
		k := i
		for k < len(line) && line[k] != 32 {
			k++
		}
		if k > i {
			l = append(l, line[i:k])
		}
		i = k + 1
	}
	return l
}

func same(a, b []string) bool {
	return len(a) == len(b) && strings.Join(a, " ") == strings.Join(b, " ")
}

func TestSplitEdges(t *testing.T) {
	for _, x := range []struct {
		line string
		want []string
	}{
		{"", nil},
		{" ", nil},
		{"     ", nil},
		{"a", []string{"a"}},
		{" a", []string{"a"}},
		{"a ", []string{"a"}},
		{"   a   ", []string{"a"}},
		{"a b", []string{"a", "b"}},
		{"get  a b ", []string{"get", "a", "b"}},
		{"  set   k 0\t0  1  ", []string{"set", "k", "0\t0", "1"}},
		{"a\tb\r\n\x00\v\fc", []string{"a\tb\r\n\x00\v\fc"}}, // 32 alone parts words
		{"a\u00a0b\u0085c\u2028d\u3000e", []string{"a\u00a0b\u0085c\u2028d\u3000e"}},
		{" \xff \uFFFD \xe2\x82 é", []string{"\xff", "\uFFFD", "\xe2\x82", "é"}},
		{"\xa0 \x20\x20\xe2 \x80", []string{"\xa0", "\xe2", "\x80"}},
		{strings.Repeat(" a", 5000), strings.Split(strings.Repeat("a ", 4999)+"a", " ")},
		{strings.Repeat("w", 100000), []string{strings.Repeat("w", 100000)}},
	} {
		if l := Split(x.line); !same(l, x.want) {
			t.Errorf("P2.1: Split(%.40q): %.80q, want %.80q", x.line, l, x.want)
		}
	}
}

func TestSplitByBytes(t *testing.T) {
	texts(func(s string) {
		if l := Split(s); !same(l, runs(s)) {
			t.Fatalf("P2.1: Split(%q): %q, want %q", s, l, runs(s))
		}
	})
}

func TestSplitIsNewEachTime(t *testing.T) {
	a := Split("get a b")
	room := a[:cap(a)]
	for i := range room {
		room[i] = "spoilt"
	}
	if b := Split("get a b"); !same(b, []string{"get", "a", "b"}) {
		t.Errorf("R4: Split again: %q", b)
	}
}

func TestSplitSharesNothingWithTheLine(t *testing.T) {
	line := strings.Repeat("get a ", 3) + "b"
	begin := uintptr(unsafe.Pointer(unsafe.StringData(line)))
	for _, w := range Split(line) {
		if at := uintptr(unsafe.Pointer(unsafe.StringData(w))); at >= begin && at < begin+uintptr(len(line)) {
			t.Errorf("R4: the word %q is a piece of the line's memory", w)
		}
	}
}

// digits is whether s is a list of 1 to 20 decimal digits.
func digits(s string) bool {
	return len(s) >= 1 && len(s) <= 20 && strings.Trim(s, "0123456789") == "" && len(strings.Fields(s)) == 1
}

func wantNumber(s string) (uint64, bool) {
	if !digits(s) {
		return 0, false
	}
	n, _ := new(big.Int).SetString(s, 10)
	if !n.IsUint64() {
		return 0, false
	}
	return n.Uint64(), true
}

func wantSigned(s string) (int64, bool) {
	d := s
	if s != "" && s[0] == '-' {
		d = s[1:]
	}
	if !digits(d) {
		return 0, false
	}
	n, _ := new(big.Int).SetString(s, 10)
	if !n.IsInt64() {
		return 0, false
	}
	return n.Int64(), true
}

// around are the numbers right at a power of two or of ten, and those that begin a wrap-round.
func around() []string {
	var l []string
	put := func(n *big.Int) {
		for d := int64(-11); d <= 11; d++ {
			l = append(l, new(big.Int).Add(n, big.NewInt(d)).String())
		}
	}
	for i := range 70 {
		put(new(big.Int).Lsh(big.NewInt(1), uint(i)))
	}
	for i := range 22 {
		put(new(big.Int).Exp(big.NewInt(10), big.NewInt(int64(i)), nil))
	}
	for i := int64(1); i < 10; i++ { // whose wrapped form is small again
		put(new(big.Int).Mul(new(big.Int).Lsh(big.NewInt(1), 64), big.NewInt(i)))
	}
	return l
}

func numerals() []string {
	l := []string{
		"", "0", "7", "9", "007", "42", "65535", "1234567890", "98765432109876543210",
		"18446744073709551614", "18446744073709551615", "18446744073709551616", "18446744073709551619", "18446744073709551620", "20000000000000000000", "99999999999999999999",
		"018446744073709551615", "0018446744073709551615", "09223372036854775807", "09223372036854775808", "009223372036854775807",
		"-", "--", "-0", "-00", "--5", "-5", "5-", "-5-", "- 5", " -5", "-5 ", "+5", "-+5", "+-5", "+", "+0", "−5", "-a", "-\xff",
		"9223372036854775806", "9223372036854775807", "9223372036854775808", "-9223372036854775807", "-9223372036854775808", "-9223372036854775809", "-18446744073709551615", "-18446744073709551616",
		" 1", "1 ", "1 2", "1_0", "0x1", "0b1", "1e3", "1.0", "1,000", "a", "1a", "a1", "12\x0034", "\x001", "1\n",
		"٣", "１", "²", "1٣", "１２", "\xff", "1\xff", "/", ":", "1/", "1:", "\u0130", "\u0131", "\u0100",
		strings.Repeat("9", 1000), strings.Repeat("0", 100000) + "1", "inf", "NaN", "true",
	}
	for n := range 23 {
		for _, d := range []string{"0", "1", "9"} {
			l = append(l, strings.Repeat(d, n), strings.Repeat("0", n)+d, strings.Repeat("0", n)+"18446744073709551615")
		}
	}
	l = append(l, around()...)
	for _, s := range l {
		l = append(l, "-"+s)
	}
	return l
}

func checkNumber(t *testing.T, s string) {
	n, ok := Number(s)
	if want, good := wantNumber(s); n != want || ok != good {
		t.Errorf("P2.2: Number(%.40q): %d %v, want %d %v", s, n, ok, want, good)
	}
}

func checkSigned(t *testing.T, s string) {
	n, ok := Signed(s)
	if want, good := wantSigned(s); n != want || ok != good {
		t.Errorf("P2.2: Signed(%.40q): %d %v, want %d %v", s, n, ok, want, good)
	}
}

func TestNumbersByReckoning(t *testing.T) {
	for _, s := range numerals() {
		checkNumber(t, s)
		checkSigned(t, s)
	}
	texts(func(s string) {
		if len(s) < 4 {
			checkNumber(t, s)
			checkSigned(t, s)
		}
	})
}

func TestNumberEdges(t *testing.T) {
	for s, want := range map[string]string{
		"0": "0 true", "7": "7 true", "007": "7 true", "": "0 false", "-0": "0 false", "-1": "0 false",
		"00000000000000000000": "0 true", "000000000000000000000": "0 false",
		"00000000000000000001": "1 true", "000000000000000000001": "0 false",
		"09999999999999999999": "9999999999999999999 true", "10000000000000000000": "10000000000000000000 true",
		"18446744073709551615": "18446744073709551615 true", "18446744073709551616": "0 false",
		"018446744073709551615": "0 false", "99999999999999999999": "0 false",
	} {
		n, ok := Number(s)
		if got := fmt.Sprint(n, ok); got != want {
			t.Errorf("P2.2: Number(%q): %s, want %s", s, got, want)
		}
	}
}

func TestSignedEdges(t *testing.T) {
	for s, want := range map[string]string{
		"0": "0 true", "-0": "0 true", "-5": "-5 true", "5": "5 true", "-": "0 false", "": "0 false",
		"9223372036854775807": "9223372036854775807 true", "9223372036854775808": "0 false",
		"-9223372036854775808": "-9223372036854775808 true", "-9223372036854775809": "0 false",
		"09223372036854775807": "9223372036854775807 true", "-09223372036854775808": "-9223372036854775808 true",
		"-00000000000000000005": "-5 true", "-000000000000000000005": "0 false",
		"00000000000000000005": "5 true", "000000000000000000005": "0 false",
		"18446744073709551615": "0 false", "-18446744073709551615": "0 false", "--5": "0 false", "+5": "0 false",
	} {
		n, ok := Signed(s)
		if got := fmt.Sprint(n, ok); got != want {
			t.Errorf("P2.2: Signed(%q): %s, want %s", s, got, want)
		}
	}
}

func TestText(t *testing.T) {
	for n, want := range map[uint64]string{
		0: "0", 1: "1", 9: "9", 10: "10", 70: "70", 100: "100", 101: "101", 1<<32 - 1: "4294967295", 1 << 32: "4294967296",
		1<<63 - 1: "9223372036854775807", 1 << 63: "9223372036854775808", 10000000000000000000: "10000000000000000000",
		math.MaxUint64 - 1: "18446744073709551614", math.MaxUint64: "18446744073709551615",
	} {
		if got := Text(n); got != want {
			t.Errorf("P2.2: Text: %q, want %q", got, want)
		}
	}
	for _, s := range around() {
		n, ok := Number(s)
		if ok && Text(n) != s {
			t.Errorf("P2.2: Text(Number(%q)): %q", s, Text(n))
		}
	}
}

// wantShown shows by parts.
func wantShown(s string) string {
	out := ""
	for _, p := range parts(s) {
		if p.ok && p.rune > 32 && p.rune != 127 && p.rune != 34 && p.rune != 92 {
			out += p.text
			continue
		}
		for _, x := range []byte(p.text) {
			out += fmt.Sprintf("\\%03o", x)
		}
	}
	return out
}

func TestShownEdges(t *testing.T) {
	for s, want := range map[string]string{
		"": "", "a": "a", "a b": `a\040b`, "  ": `\040\040`, "!": "!", "\x1f": `\037`, "\x00": `\000`, "\n\r\t": `\012\015\011`,
		"\"": `\042`, "\\": `\134`, `\040`: `\134040`, "#[]~'`": "#[]~'`", "\x7f": `\177`, "\u0080": "\u0080", "\u00a0": "\u00a0", "\u2028\u2029": "\u2028\u2029",
		"ä€😀": "ä€😀", "\uFFFD": "\uFFFD", "\xff": `\377`, "\xff\uFFFD\xff": "\\377\uFFFD\\377", "\xef\xbf": `\357\277`, "\xef\xbf\uFFFD": "\\357\\277\uFFFD",
		"a\xe2\x82z": `a\342\202z`, "\xc0\x80": `\300\200`, "\xed\xa0\x80": `\355\240\200`, "\xf4\x90\x80\x80": `\364\220\200\200`, "\U0010ffff": "\U0010ffff",
	} {
		if got := Shown(s); got != want {
			t.Errorf("P2.2: Shown(%q): %q, want %q", s, got, want)
		}
	}
	if got := Shown(strings.Repeat("a ", 100000)); got != strings.Repeat(`a\040`, 100000) {
		t.Errorf("P2.2: Shown of a long text: %d bytes", len(got))
	}
}

func TestShownOfEveryRune(t *testing.T) {
	for r := range 0x110000 {
		if r >= 0xd800 && r <= 0xdfff {
			continue
		}
		s := "a" + string(rune(r)) + "é"
		if got, want := Shown(s), wantShown(s); got != want {
			t.Errorf("P2.2: Shown(%q): %q, want %q", s, got, want)
		}
	}
}

func TestShownByTheForm(t *testing.T) {
	texts(func(s string) {
		if got, want := Shown(s), wantShown(s); got != want {
			t.Fatalf("P2.2: Shown(%q): %q, want %q", s, got, want)
		}
	})
}

// TestSameEachTime asks each call twice, with others between.
func TestSameEachTime(t *testing.T) {
	tell := func(s string) string {
		n, form := Runes(s)
		u, good := Number(s)
		i, fine := Signed(s)
		return fmt.Sprint(n, form, Key(s), len(Split(s)), Split(s), u, good, i, fine, Shown(s))
	}
	l := []string{"", "a b", "\xff", "-5", "007", "é", strings.Repeat("k", 251)}
	var told []string
	for _, s := range l {
		told = append(told, tell(s))
	}
	for i, s := range l {
		if got := tell(s); got != told[i] {
			t.Errorf("R5: %.20q: %s, then %s", s, told[i], got)
		}
	}
}
