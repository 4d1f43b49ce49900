package parse

import (
	"fmt"
	"math"
	"slices"
	"strings"
	"testing"
	"unsafe"

	"cellaret/event"
)

const (
	formatText = "CLIENT_ERROR bad command line format"
	deltaText  = "CLIENT_ERROR invalid numeric delta argument"
	timeText   = "CLIENT_ERROR invalid exptime argument"
	largeText  = "SERVER_ERROR object too large for cache"
	chunkText  = "CLIENT_ERROR bad data chunk"
	longText   = "CLIENT_ERROR line too long"
)

var (
	firsts  = []string{"get", "gets", "gat", "gats", "set", "add", "replace", "append", "prepend", "cas", "incr", "decr", "touch", "delete", "flush_all", "version", "quit"}
	storing = []string{"set", "add", "replace", "append", "prepend"}
)

func TestOneExamples(t *testing.T) {
	is(t, "get a", event.Command{What: "get", Keys: []string{"a"}}, -1)
	is(t, "set a 0 0 2", event.Command{What: "store", Verb: "set", Keys: []string{"a"}}, 2)
	isBad(t, "what", "ERROR")
}

// Each row of the table, with all its fields at once.
func TestOneOfEachRow(t *testing.T) {
	l := []string{"b", "a", "b"}
	is(t, "get b a b", event.Command{What: "get", Keys: l}, -1)
	is(t, "gets b a b", event.Command{What: "get", Keys: l, WithCas: true}, -1)
	is(t, "gat -7 b a b", event.Command{What: "get", Keys: l, WithTouch: true, Exp: -7}, -1)
	is(t, "gats 7 b a b", event.Command{What: "get", Keys: l, WithTouch: true, WithCas: true, Exp: 7}, -1)
	for _, verb := range storing {
		is(t, verb+" k 1 -2 3", event.Command{What: "store", Verb: verb, Keys: []string{"k"}, Flags: 1, Exp: -2}, 3)
		is(t, verb+" k 1 2 0 noreply", event.Command{What: "store", Verb: verb, Keys: []string{"k"}, Flags: 1, Exp: 2, Quiet: true}, 0)
	}
	is(t, "cas k 1 -2 3 4", event.Command{What: "store", Verb: "cas", Keys: []string{"k"}, Flags: 1, Exp: -2, Cas: 4}, 3)
	is(t, "cas k 1 2 0 4 noreply", event.Command{What: "store", Verb: "cas", Keys: []string{"k"}, Flags: 1, Exp: 2, Cas: 4, Quiet: true}, 0)
	is(t, "incr k 5", event.Command{What: "arith", Keys: []string{"k"}, By: 5}, -1)
	is(t, "incr k 5 noreply", event.Command{What: "arith", Keys: []string{"k"}, By: 5, Quiet: true}, -1)
	is(t, "decr k 5", event.Command{What: "arith", Keys: []string{"k"}, By: 5, Down: true}, -1)
	is(t, "decr k 5 noreply", event.Command{What: "arith", Keys: []string{"k"}, By: 5, Down: true, Quiet: true}, -1)
	is(t, "touch k -5", event.Command{What: "touch", Keys: []string{"k"}, Exp: -5}, -1)
	is(t, "touch k 5 noreply", event.Command{What: "touch", Keys: []string{"k"}, Exp: 5, Quiet: true}, -1)
	is(t, "delete k", event.Command{What: "delete", Keys: []string{"k"}}, -1)
	is(t, "delete k 0", event.Command{What: "delete", Keys: []string{"k"}}, -1)
	is(t, "delete k noreply", event.Command{What: "delete", Keys: []string{"k"}, Quiet: true}, -1)
	is(t, "flush_all", event.Command{What: "flush"}, -1)
	is(t, "flush_all 0", event.Command{What: "flush"}, -1)
	is(t, "flush_all noreply", event.Command{What: "flush", Quiet: true}, -1)
	is(t, "version", event.Command{What: "word", Verb: "version"}, -1)
	is(t, "quit", event.Command{What: "word", Verb: "quit"}, -1)
}

// counts are the numbers of words of which a line is more than ERROR: alone, with noreply last, with 0 last.
// All other words are numbers, and so keys too.
var counts = map[string][3]string{
	"get": {"23456789", "23456789", "23456789"}, "gets": {"23456789", "23456789", "23456789"},
	"gat": {"3456789", "3456789", "3456789"}, "gats": {"3456789", "3456789", "3456789"},
	"set": {"5", "56", "5"}, "add": {"5", "56", "5"}, "replace": {"5", "56", "5"}, "append": {"5", "56", "5"}, "prepend": {"5", "56", "5"},
	"cas": {"6", "67", "6"}, "incr": {"3", "34", "3"}, "decr": {"3", "34", "3"}, "touch": {"3", "34", "3"},
	"delete": {"2", "23", "23"}, "flush_all": {"1", "12", "12"}, "version": {"1", "1", "1"}, "quit": {"1", "1", "1"},
}

// Each first word with each number of words; the last one noreply, 0, or one more.
func TestOneNumbersOfWords(t *testing.T) {
	for _, first := range firsts {
		for n := 1; n <= 9; n++ {
			w := append([]string{first}, slices.Repeat([]string{"7"}, n-1)...)
			for i, end := range []string{"7", "noreply", "0", "no", "noreply0", "NOREPLY", "Noreply", "norepl", "00", "1", "-0"} {
				if n > 1 {
					w[n-1] = end
				}
				may := counts[first][0]
				if i == 1 || i == 2 {
					may = counts[first][i]
				}
				line := strings.Join(w, " ")
				c, size := holdOne(t, line)
				isError := c.What == "bad" && c.Verb == "ERROR" && size == -1
				if want := !strings.Contains(may, fmt.Sprint(n)); isError != want {
					t.Errorf("P18.1: One(%q): %s, %d", line, shown(c), size)
				}
			}
		}
	}
}

// A noreply or 0 that is not the last word is what stands at its place.
func TestOneNoreplyWithin(t *testing.T) {
	is(t, "delete noreply", event.Command{What: "delete", Keys: []string{"noreply"}}, -1)
	is(t, "delete 0", event.Command{What: "delete", Keys: []string{"0"}}, -1)
	is(t, "delete noreply noreply", event.Command{What: "delete", Keys: []string{"noreply"}, Quiet: true}, -1)
	is(t, "delete 0 0", event.Command{What: "delete", Keys: []string{"0"}}, -1)
	is(t, "get noreply 0", event.Command{What: "get", Keys: []string{"noreply", "0"}}, -1)
	is(t, "gat 0 noreply", event.Command{What: "get", Keys: []string{"noreply"}, WithTouch: true}, -1)
	is(t, "set noreply 0 0 1", event.Command{What: "store", Verb: "set", Keys: []string{"noreply"}}, 1)
	is(t, "incr noreply 0", event.Command{What: "arith", Keys: []string{"noreply"}}, -1)
	is(t, "touch noreply 0", event.Command{What: "touch", Keys: []string{"noreply"}}, -1)
	isBad(t, "set k 0 0 noreply", formatText)
	isBad(t, "cas k 0 0 1 noreply", formatText)
	isBad(t, "incr k noreply", deltaText)
	isBad(t, "touch k noreply", timeText)
	isBad(t, "gat noreply k", timeText)
	isBad(t, "set noreply k 0 0 1", "ERROR")
	isBad(t, "set k 0 0 noreply 1", "ERROR")
	isBad(t, "set k 0 0 1 0", "ERROR")
	isBad(t, "incr k 1 0", "ERROR")
	isBad(t, "touch k 1 0", "ERROR")
	isBad(t, "delete noreply k", "ERROR")
	isBad(t, "delete k 0 noreply", "ERROR")
	isBad(t, "delete k noreply 0", "ERROR")
	isBad(t, "flush_all noreply noreply", "ERROR")
	isBad(t, "flush_all 0 noreply", "ERROR")
	isBad(t, "flush_all noreply 0", "ERROR")
	isBad(t, "version noreply", "ERROR")
	isBad(t, "quit 0", "ERROR")
	isBad(t, "noreply", "ERROR")
	isBad(t, "0", "ERROR")
}

// A first word that is none of the table's, however near it comes to one.
func TestOneFirstWordsThatAreNone(t *testing.T) {
	l := []string{"", " ", "      ", "\t", "\r", "\n", "\x00", "\xff", "store", "arith", "flush", "bad", "word", "ERROR", "END", "stats", "verbosity", "ｇｅｔ", strings.Repeat("get", 100000), strings.Repeat("x", 5000)}
	for _, first := range firsts {
		l = append(l, strings.ToUpper(first), strings.ToUpper(first[:1])+first[1:], first[:len(first)-1]+strings.ToUpper(first[len(first)-1:]), first+"\r", "\r"+first, first+"\t", "\t"+first, first+"\x00", "\x00"+first, first+"\n", "\xff"+first, first+"\u00a0", "\uFEFF"+first, first+first, "x"+first, first+"x")
	}
	for _, first := range l {
		for _, rest := range []string{"", " ", " k", " 0 k", " k 0 0", " k 0 0 5", " k 0 0 5 6", " k 0 0 5 6 noreply", " noreply", " 0"} {
			if len(plainWords(first)) == 0 && len(plainWords(rest)) > 0 {
				continue
			}
			isBad(t, first+rest, "ERROR")
		}
	}
	isBad(t, " k get", "ERROR")
	isBad(t, "k 0 0 5 set", "ERROR")
}

// Blanks ahead, between and behind are nothing, however many.
func TestOneBlanks(t *testing.T) {
	for _, s := range []string{"get a b", "gats 5 a b", "set k 1 2 3", "cas k 1 2 3 4 noreply", "incr k 1", "touch k 1 noreply", "delete k 0", "flush_all", "flush_all noreply", "version", "quit"} {
		want, size := holdOne(t, s)
		if want.What == "bad" {
			t.Fatalf("P18.1: One(%q): %s", s, shown(want))
		}
		for _, line := range []string{" " + s, s + " ", "   " + s + "    ", strings.ReplaceAll(s, " ", "  "), strings.Repeat(" ", 3000) + strings.ReplaceAll(s, " ", strings.Repeat(" ", 1000)) + strings.Repeat(" ", 3000)} {
			is(t, line, want, size)
		}
		tabs := strings.ReplaceAll(s, " ", "\t")
		if tabs != s {
			isBad(t, tabs, "ERROR")
		}
	}
}

var (
	badKeys  = []string{"\xff", "a\xff", "\x00", "\x01", "a\n", "\r", "k\r", "\t", "\x1f", "\x7f", "\u0080", "\u00a0", "\u2028", "\u2029", "\xc3", "\xed\xa0\x80", strings.Repeat("k", 251), strings.Repeat("é", 126), strings.Repeat("k", 100000)}
	goodKeys = []string{"a", "~", "!", "0", "-1", "noreply", "get", "\uFFFD", "\u00a1", "é", "😀", strings.Repeat("k", 249), strings.Repeat("k", 250), strings.Repeat("é", 125)}
)

// keyed are lines with one key, %, at its place.
var keyed = []string{"get %", "gets %", "gat 1 %", "gats 1 %", "set % 0 0 1", "add % 0 0 1 noreply", "replace % 0 0 1", "append % 0 0 1", "prepend % 0 0 1 noreply", "cas % 0 0 1 2", "cas % 0 0 1 2 noreply", "incr % 1", "decr % 1 noreply", "touch % 1", "touch % 1 noreply", "delete %", "delete % 0", "delete % noreply"}

func TestOneKeys(t *testing.T) {
	for _, form := range keyed {
		for _, key := range badKeys {
			isBad(t, strings.ReplaceAll(form, "%", key), formatText)
		}
		for _, key := range goodKeys {
			c, _ := holdOne(t, strings.ReplaceAll(form, "%", key))
			if c.What == "bad" || !slices.Equal(c.Keys, []string{key}) {
				t.Errorf("P18.1: One of %q of the key %.20q: %.100s", form, key, shown(c))
			}
		}
	}
	isBad(t, "get ", "ERROR")
	isBad(t, "set  0 0 1", "ERROR") // a key of no bytes is no word
	isBad(t, "delete ", "ERROR")
}

// Keys of each rune, and of each two bytes.
func TestOneKeysAreWordsKeys(t *testing.T) {
	for r := range rune(0x2100) {
		for _, form := range []string{"get %", "set % 0 0 1", "delete x%"} {
			holdOne(t, strings.ReplaceAll(form, "%", string(r)))
		}
	}
	for a := range 256 {
		for b := range 256 {
			holdOne(t, "get "+string([]byte{byte(a), byte(b)}))
		}
	}
	for n := range 260 {
		holdOne(t, "get "+strings.Repeat("k", n))
		holdOne(t, "incr "+strings.Repeat("é", n/2)+strings.Repeat("k", n%2)+" 1")
	}
}

func many(n int) []string {
	var l []string
	for i := range n {
		l = append(l, fmt.Sprint("k", i))
	}
	return l
}

func TestOneManyKeys(t *testing.T) {
	for _, n := range []int{1, 2, 62, 63, 64, 65, 66, 128, 64 + 1<<16} {
		for _, first := range []string{"get", "gets", "gat -3", "gats -3"} {
			line := first + " " + strings.Join(many(n), " ")
			if n > 64 {
				isBad(t, line, formatText)
				continue
			}
			want := event.Command{What: "get", Keys: many(n), WithCas: strings.Contains(first, "ts"), WithTouch: first[1] == 'a'}
			if want.WithTouch {
				want.Exp = -3
			}
			is(t, line, want, -1)
		}
	}
	is(t, "get"+strings.Repeat(" k", 64), event.Command{What: "get", Keys: slices.Repeat([]string{"k"}, 64)}, -1)
	isBad(t, "get"+strings.Repeat(" k", 65), formatText)
}

// A key that is none is found wherever it stands, among few keys and among too many.
func TestOneOneBadKey(t *testing.T) {
	for _, n := range []int{2, 3, 64, 65} {
		for at := range n {
			for _, key := range badKeys[:14] {
				keys := many(n)
				keys[at] = key
				isBad(t, "get "+strings.Join(keys, " "), formatText)
				isBad(t, "gats 5 "+strings.Join(keys, " "), formatText)
				isBad(t, "gat x "+strings.Join(keys, " "), formatText)
			}
		}
	}
}

// notNumbers have no form as any number.
var notNumbers = []string{"x", "1x", "x1", "-", "--1", "+1", "1.5", "1e3", "0x1", "1_0", "\xff", "\x00", "1\r", "\t1", "٣", "１", "1,0", "000000000000000000000", "123456789012345678901", strings.Repeat("1", 1000), "-000000000000000000000", "-99999999999999999999", "99999999999999999999"}

func TestOneFlags(t *testing.T) {
	for s, want := range map[string]uint32{"0": 0, "1": 1, "4294967294": math.MaxUint32 - 1, "4294967295": math.MaxUint32, "00000000000000000000": 0, "00000000004294967295": math.MaxUint32, "07": 7} {
		is(t, "set k "+s+" 0 1", event.Command{What: "store", Verb: "set", Keys: []string{"k"}, Flags: want}, 1)
		is(t, "cas k "+s+" 0 1 9 noreply", event.Command{What: "store", Verb: "cas", Keys: []string{"k"}, Flags: want, Cas: 9, Quiet: true}, 1)
	}
	for _, s := range append([]string{"4294967296", "8589934592", "18446744073709551615", "18446744073709551616", "-1", "-0"}, notNumbers...) {
		isBad(t, "set k "+s+" 0 1", formatText)
		isBad(t, "cas k "+s+" 0 1 9 noreply", formatText)
	}
}

// times are the numbers that a Signed may be, with their texts.
var times = map[string]int64{"0": 0, "-0": 0, "1": 1, "-1": -1, "007": 7, "-007": -7, "9223372036854775807": math.MaxInt64, "9223372036854775806": math.MaxInt64 - 1, "-9223372036854775808": math.MinInt64, "-9223372036854775807": math.MinInt64 + 1, "00000000000000000005": 5, "-00000000000000000005": -5, "2592000": 2592000, "2592001": 2592001}

var notTimes = append([]string{"9223372036854775808", "-9223372036854775809", "18446744073709551615", "1-", "-1-"}, notNumbers...)

func TestOneTimes(t *testing.T) {
	for s, want := range times {
		is(t, "add k 5 "+s+" 1", event.Command{What: "store", Verb: "add", Keys: []string{"k"}, Flags: 5, Exp: want}, 1)
		is(t, "cas k 0 "+s+" 1 2", event.Command{What: "store", Verb: "cas", Keys: []string{"k"}, Exp: want, Cas: 2}, 1)
		is(t, "touch k "+s, event.Command{What: "touch", Keys: []string{"k"}, Exp: want}, -1)
		is(t, "gat "+s+" k", event.Command{What: "get", Keys: []string{"k"}, WithTouch: true, Exp: want}, -1)
		is(t, "gats "+s+" k l", event.Command{What: "get", Keys: []string{"k", "l"}, WithTouch: true, WithCas: true, Exp: want}, -1)
	}
	for _, s := range notTimes {
		isBad(t, "add k 5 "+s+" 1", formatText)
		isBad(t, "cas k 0 "+s+" 1 2 noreply", formatText)
		isBad(t, "touch k "+s, timeText)
		isBad(t, "touch k "+s+" noreply", timeText)
		isBad(t, "gat "+s+" k", timeText)
		isBad(t, "gats "+s+" k l", timeText)
	}
}

func TestOneBytes(t *testing.T) {
	for _, verb := range append([]string{"cas"}, storing...) {
		tail := ""
		want := event.Command{What: "store", Verb: verb, Keys: []string{"k"}, Flags: 3, Exp: 4}
		if verb == "cas" {
			tail, want.Cas = " 7", 7
		}
		for s, n := range map[string]int{"0": 0, "1": 1, "1023": 1023, "1024": 1024, "00000000000000001024": 1024} {
			is(t, verb+" k 3 4 "+s+tail, want, n)
			quiet := want
			quiet.Quiet = true
			is(t, verb+" k 3 4 "+s+tail+" noreply", quiet, n)
		}
		for s, n := range map[string]int{"1025": 1025, "1026": 1026, "65536": 65536, "2147483646": 1<<31 - 2, "2147483647": 1<<31 - 1, "00000000002147483647": 1<<31 - 1} {
			is(t, verb+" k 3 4 "+s+tail, event.Command{What: "bad", Verb: largeText}, n)
			is(t, verb+" k 3 4 "+s+tail+" noreply", event.Command{What: "bad", Verb: largeText}, n)
		}
		for _, s := range append([]string{"2147483648", "4294967295", "4294967296", "4294967297", "9223372036854775808", "18446744073709551615", "18446744073709551616", "18446744073709551617", "-1", "-0"}, notNumbers...) {
			isBad(t, verb+" k 3 4 "+s+tail, formatText)
			isBad(t, verb+" k 3 4 "+s+tail+" noreply", formatText)
		}
	}
}

func TestOneCasAndBy(t *testing.T) {
	for s, want := range map[string]uint64{"0": 0, "1": 1, "18446744073709551614": math.MaxUint64 - 1, "18446744073709551615": math.MaxUint64, "9223372036854775808": 1 << 63, "00000000000000000009": 9} {
		is(t, "cas k 0 0 1 "+s, event.Command{What: "store", Verb: "cas", Keys: []string{"k"}, Cas: want}, 1)
		is(t, "incr k "+s, event.Command{What: "arith", Keys: []string{"k"}, By: want}, -1)
		is(t, "decr k "+s+" noreply", event.Command{What: "arith", Keys: []string{"k"}, By: want, Down: true, Quiet: true}, -1)
	}
	for _, s := range append([]string{"18446744073709551616", "20000000000000000000", "-1", "-0"}, notNumbers...) {
		isBad(t, "cas k 0 0 1 "+s, formatText)
		isBad(t, "cas k 0 0 1 "+s+" noreply", formatText)
		isBad(t, "incr k "+s, deltaText)
		isBad(t, "incr k "+s+" noreply", deltaText)
		isBad(t, "decr k "+s, deltaText)
		isBad(t, "decr k "+s+" noreply", deltaText)
	}
}

// Of two faults in one line the number of words tells first, then the keys, then the numbers, then what is
// too large.
func TestOneTwoFaults(t *testing.T) {
	for _, line := range []string{"get", "gat x", "gat \x00", "set \x00 x x x x", "set \x00 x x", "cas \x00 x x x x x", "cas \x00 x x x", "set k 0 0 9999 x", "incr \x00", "incr \x00 x x", "touch \x00 x x", "touch \x00", "delete \x00 x", "delete \x00 1", "flush_all \x00", "version \x00", "what \x00 x"} {
		isBad(t, line, "ERROR")
	}
	for _, line := range []string{"gat x \x00", "gats x k \x00", "gat x" + strings.Repeat(" k", 65), "set \x00 x 0 1", "set \x00 0 0 9999", "set \x00 0 0 9999 noreply", "cas \x00 0 0 1 x", "incr \x00 x", "decr \x00 x noreply", "touch \x00 x", "touch \x00 x noreply"} {
		isBad(t, line, formatText)
	}
	for _, line := range []string{"set k x 0 9999", "set k 0 x 9999", "set k 4294967296 0 1025", "set k 0 9223372036854775808 1025", "cas k 0 0 9999 x", "cas k 0 0 1025 18446744073709551616", "cas k x 0 9999 1 noreply"} {
		isBad(t, line, formatText)
	}
	is(t, "cas k 0 0 9999 1 noreply", event.Command{What: "bad", Verb: largeText}, 9999)
}

// A line is any text: with other bytes than a line's, and longer than one that comes through Feed.
func TestOneAnyText(t *testing.T) {
	isBad(t, "get a\r", formatText)
	isBad(t, "get a\n", formatText)
	isBad(t, "get a\nget b", formatText)
	isBad(t, "quit\r", "ERROR")
	isBad(t, "quit\n", "ERROR")
	isBad(t, "set k 0 0 1\r", formatText)
	isBad(t, "incr k 1\n", deltaText)
	isBad(t, "touch k 1\r", timeText)
	isBad(t, "set k 0 0 1 noreply\r", "ERROR")
	isBad(t, "get \xff\xfe", formatText)
	isBad(t, "\xff\xfe get", "ERROR")
	isBad(t, "get "+strings.Repeat("k", 1<<20), formatText)
	isBad(t, strings.Repeat("k", 1<<20), "ERROR")
	isBad(t, strings.Repeat(" ", 1<<20), "ERROR")
	isBad(t, "set k "+strings.Repeat("0", 1<<20)+" 0 0", formatText)
	is(t, "get "+strings.Repeat(strings.Repeat("k", 250)+" ", 64), event.Command{What: "get", Keys: slices.Repeat([]string{strings.Repeat("k", 250)}, 64)}, -1)
	for a := range 256 {
		for _, form := range []string{"%", "get%", "get%a", "get a%", "%get a", "set k 0 0 1%", "set k 0 0% 1", "incr k 1%", "touch k%1", "flush_all%", "flush_all%0", "version%", "delete k%0"} {
			holdOne(t, strings.ReplaceAll(form, "%", string([]byte{byte(a)})))
		}
	}
}

// inside tells whether a text is a piece of another one.
func inside(s, whole string) bool {
	begin := uintptr(unsafe.Pointer(unsafe.StringData(whole)))
	at := uintptr(unsafe.Pointer(unsafe.StringData(s)))
	return len(s) > 0 && at >= begin && at < begin+uintptr(len(whole))
}

// R4: what One tells is no piece of the line, and of no other answer.
func TestOneIsNew(t *testing.T) {
	for _, line := range []string{"get aaa bbb", "gats 5 aaa", "set aaa 0 0 1", "cas aaa 0 0 1 2 noreply", "incr aaa 1", "touch aaa 1", "delete aaa", "quit", "version"} {
		line = strings.Clone(line)
		c, n := One(line)
		for _, s := range append(c.Keys, c.Verb) {
			if inside(s, line) {
				t.Errorf("R4: of %q the text %q is a piece of the line", line, s)
			}
		}
		want := shown(c)
		again, _ := One(line)
		for i := range again.Keys[:cap(again.Keys)] {
			again.Keys[:cap(again.Keys)][i] = "spoilt"
		}
		if third, m := One(line); shown(c) != want || shown(third) != want || m != n {
			t.Errorf("R4: of %q a change of what was told is seen: %s, %s", line, shown(c), shown(third))
		}
	}
}
