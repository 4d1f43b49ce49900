package event

import (
	"fmt"
	"math"
	"slices"
	"strings"
	"testing"
	"unsafe"

	"cellaret/api"
	"cellaret/words"
)

// full is a command with all of its fields set.
func full(what string) Command {
	return Command{What: what, Verb: "set", Keys: []string{"a", "b"}, Data: "data", Flags: 7, Exp: -5, Cas: 9, By: 3, WithCas: true, WithTouch: true, Down: true, Quiet: true}
}

func of(what string, keys ...string) Command { return Command{What: what, Keys: keys} }

func many(n int) []string {
	var l []string
	for i := range n {
		l = append(l, fmt.Sprint("k", i))
	}
	return l
}

func TestExamples(t *testing.T) {
	if name := Name(Command{What: "get", Keys: []string{"a"}, WithCas: true}); name != "gets" {
		t.Errorf("P17.1: Name of a Get WithCas: %q", name)
	}
	if name := Name(Command{}); name != "" {
		t.Errorf("P17.1: Name of no command: %q", name)
	}
	if l := Keys(of("touch", "a")); !slices.Equal(l, []string{"a"}) {
		t.Errorf("P17.1: Keys of a Touch of a: %q", l)
	}
}

// Each kind, with none of its fields and with all fields of any kind.
func TestEachKind(t *testing.T) {
	for _, x := range []struct {
		what                string
		zeroName, fullName  string
		quiet               bool
		zeroKeys, fullKeys  []string
		zeroGood, fullGood  bool
		zeroTyped, fullType any
	}{
		{"get", "get", "gats", false, nil, []string{"a", "b"}, false, true, Get{}, Get{Keys: []string{"a", "b"}, WithCas: true, WithTouch: true, Exp: -5}},
		{"store", "", "set", true, []string{""}, []string{"a"}, false, true, Store{}, Store{Verb: "set", Key: "a", Data: "data", Flags: 7, Exp: -5, Cas: 9, Quiet: true}},
		{"arith", "incr", "decr", true, []string{""}, []string{"a"}, false, true, Arith{}, Arith{Key: "a", By: 3, Down: true, Quiet: true}},
		{"touch", "touch", "touch", true, []string{""}, []string{"a"}, false, true, Touch{}, Touch{Key: "a", Exp: -5, Quiet: true}},
		{"delete", "delete", "delete", true, []string{""}, []string{"a"}, false, true, Delete{}, Delete{Key: "a", Quiet: true}},
		{"flush", "flush_all", "flush_all", true, nil, nil, true, true, Flush{}, Flush{Quiet: true}},
		{"bad", "bad", "bad", false, nil, nil, false, false, Bad{}, Bad{Text: "set"}},
		{"word", "", "set", false, nil, nil, false, false, Word{}, Word{Name: "set"}},
		{"", "", "", false, nil, nil, false, false, nil, nil},
	} {
		zero, all := Command{What: x.what}, full(x.what)
		if a, b := Name(zero), Name(all); a != x.zeroName || b != x.fullName {
			t.Errorf("P17.1: Name of a %q: %q, %q", x.what, a, b)
		}
		if a, b := Quiet(zero), Quiet(all); a || b != x.quiet {
			t.Errorf("P17.1: Quiet of a %q: %v, %v", x.what, a, b)
		}
		if a, b := Keys(zero), Keys(all); !slices.Equal(a, x.zeroKeys) || !slices.Equal(b, x.fullKeys) {
			t.Errorf("P17.1: Keys of a %q: %q, %q", x.what, a, b)
		}
		if a, b := Good(zero), Good(all); a != x.zeroGood || b != x.fullGood {
			t.Errorf("P17.1: Good of a %q: %v, %v", x.what, a, b)
		}
		if a, b := typed(Typed(zero)), typed(Typed(all)); a != typed(x.zeroTyped) || b != typed(x.fullType) {
			t.Errorf("P17.1: Typed of a %q: %s, %s", x.what, a, b)
		}
	}
}

func TestName(t *testing.T) {
	for _, x := range []struct {
		c    Command
		want string
	}{
		{Command{What: "get"}, "get"},
		{Command{What: "get", WithCas: true}, "gets"},
		{Command{What: "get", WithTouch: true}, "gat"},
		{Command{What: "get", WithTouch: true, WithCas: true}, "gats"},
		{Command{What: "get", Verb: "gat"}, "get"},
		{Command{What: "get", Exp: 5, Cas: 5}, "get"},
		{Command{What: "store", Verb: "set"}, "set"},
		{Command{What: "store", Verb: "add"}, "add"},
		{Command{What: "store", Verb: "replace"}, "replace"},
		{Command{What: "store", Verb: "append"}, "append"},
		{Command{What: "store", Verb: "prepend"}, "prepend"},
		{Command{What: "store", Verb: "cas"}, "cas"},
		{Command{What: "store", Verb: "SET"}, "SET"},
		{Command{What: "store", Verb: "get", WithCas: true}, "get"},
		{Command{What: "store", Verb: " what\xff\n"}, " what\xff\n"},
		{Command{What: "store"}, ""},
		{Command{What: "store", WithCas: true, Cas: 1}, ""},
		{Command{What: "arith"}, "incr"},
		{Command{What: "arith", Down: true}, "decr"},
		{Command{What: "arith", Verb: "decr"}, "incr"},
		{Command{What: "touch", Verb: "gat", WithTouch: true}, "touch"},
		{Command{What: "delete", Verb: "set"}, "delete"},
		{Command{What: "flush", Verb: "flush"}, "flush_all"},
		{Command{What: "bad", Verb: "ERROR"}, "bad"},
		{Command{What: "bad", Verb: "quit"}, "bad"},
		{Command{What: "word", Verb: "version"}, "version"},
		{Command{What: "word", Verb: "quit"}, "quit"},
		{Command{What: "word", Verb: "other"}, "other"},
		{Command{What: "word", Verb: "get"}, "get"},
		{Command{What: "word", Verb: "\x00"}, "\x00"},
		{Command{What: "word", WithCas: true}, ""},
	} {
		if got := Name(x.c); got != x.want {
			t.Errorf("P17.1: Name(%+v): %q, want %q", x.c, got, x.want)
		}
	}
}

// A What that is none of the table's is no command, however near it comes to one.
func TestNoCommand(t *testing.T) {
	l := []string{"", " ", "Value", "value", "line", "gets", "gat", "gats", "set", "cas", "incr", "decr", "flush_all", "version", "quit", "none", "g", "command", strings.Repeat("get", 100000), "get\x00", "ｇｅｔ", "\xff"}
	for _, what := range kinds[:8] {
		l = append(l, strings.ToUpper(what), strings.ToUpper(what[:1])+what[1:], what+" ", " "+what, what+"\n", what+"s", what[1:], what[:len(what)-1], what+what)
	}
	for _, what := range l {
		for _, c := range []Command{{What: what}, full(what), {What: what, Verb: "version"}, {What: what, Keys: many(64), Quiet: true}} {
			if Name(c) != "" || Quiet(c) || len(Keys(c)) != 0 || Good(c) || Typed(c) != nil {
				t.Errorf("P17.1: What %.20q: %q, %v, %q, %v, %s", what, Name(c), Quiet(c), Keys(c), Good(c), typed(Typed(c)))
			}
		}
	}
}

func TestQuiet(t *testing.T) {
	for what, want := range map[string]bool{"get": false, "store": true, "arith": true, "touch": true, "delete": true, "flush": true, "bad": false, "word": false, "": false, "Store": false} {
		for _, c := range []Command{{What: what}, full(what), of(what, "k"), {What: what, Verb: "quit"}} {
			for _, quiet := range []bool{false, true} {
				c.Quiet = quiet
				if got := Quiet(c); got != (want && quiet) {
					t.Errorf("P17.1: Quiet(%+v): %v", c, got)
				}
			}
		}
	}
}

func TestKeys(t *testing.T) {
	for _, x := range []struct {
		c    Command
		want []string
	}{
		{of("get"), nil},
		{Command{What: "get", Keys: []string{}}, nil},
		{of("get", "a"), []string{"a"}},
		{of("get", ""), []string{""}},
		{of("get", "b", "a", "c"), []string{"b", "a", "c"}},
		{of("get", "a", "a"), []string{"a", "a"}},
		{of("get", "a", "b", "a", "", "a b", "\xff"), []string{"a", "b", "a", "", "a b", "\xff"}},
		{of("get", many(64)...), many(64)},
		{of("get", many(1000)...), many(1000)},
		{of("flush", "a"), nil},
		{of("bad", "a", "b"), nil},
		{of("word", "a"), nil},
		{of("", "a", "b"), nil},
		{of("GET", "a"), nil},
	} {
		if got := Keys(x.c); !slices.Equal(got, x.want) {
			t.Errorf("P17.1: Keys(%s): %.100q", brief(x.c), got)
		}
	}
}

// Of those that have one key it is the first of Keys, and nothing, if there is none.
func TestKeysOfOne(t *testing.T) {
	for _, what := range []string{"store", "arith", "touch", "delete"} {
		for _, x := range []struct {
			keys []string
			want string
		}{
			{nil, ""}, {[]string{}, ""}, {[]string{""}, ""}, {[]string{"k"}, "k"}, {[]string{"a b"}, "a b"}, {[]string{"\xff"}, "\xff"},
			{[]string{"k", "l"}, "k"}, {[]string{"", "l"}, ""}, {[]string{"k", ""}, "k"}, {many(1000), "k0"},
			{make([]string, 0, 5), ""}, {[]string{"k", "l"}[:0], ""},
		} {
			if got := Keys(of(what, x.keys...)); !slices.Equal(got, []string{x.want}) {
				t.Errorf("P17.1: Keys of a %s of %.50q: %q", what, x.keys, got)
			}
		}
	}
}

// R4: what Keys tells is new, spare room too: no change of it is seen by the command, nor the other way.
func TestKeysIsNew(t *testing.T) {
	for _, what := range kinds {
		room := []string{"a", "b", "c", "spare", "spare"}
		c := Command{What: what, Verb: "set", Keys: room[:3]}
		l, k := Keys(c), Typed(c)
		want, wantTyped := slices.Clone(l), typed(k)
		for i := range room {
			room[i] = "changed"
		}
		if !slices.Equal(l, want) || typed(k) != wantTyped {
			t.Errorf("R4: of a %q a change of what was handed in is seen: %q, %s", what, l, typed(k))
		}
		copy(room, []string{"a", "b", "c", "spare", "spare"})
		for _, told := range [][]string{l, Keys(c)} {
			told = told[:cap(told)]
			for i := range told {
				told[i] = "spoilt"
			}
		}
		if g, ok := k.(Get); ok {
			for i := range g.Keys[:cap(g.Keys)] {
				g.Keys[:cap(g.Keys)][i] = "spoilt"
			}
		}
		if again := Keys(c); !slices.Equal(again, want) || !slices.Equal(room, []string{"a", "b", "c", "spare", "spare"}) || typed(Typed(c)) != wantTyped {
			t.Errorf("R4: of a %q a change of what was told is seen: %q, %q", what, again, room)
		}
	}
}

// Texts that are told are no pieces of those that were handed in.
func TestTextsAreNew(t *testing.T) {
	line := strings.Repeat("word ", 20)
	begin := uintptr(unsafe.Pointer(unsafe.StringData(line)))
	for _, what := range kinds {
		c := Command{What: what, Verb: line[:4], Keys: []string{line[5:9], line[10:14]}}
		for _, told := range append(Keys(c), Name(c)) {
			if at := uintptr(unsafe.Pointer(unsafe.StringData(told))); at >= begin && at < begin+uintptr(len(line)) {
				t.Errorf("R4: of a %q the text %q is a piece of the one that was handed in", what, told)
			}
		}
	}
}

func TestGoodGet(t *testing.T) {
	for _, x := range []struct {
		keys []string
		want bool
	}{
		{nil, false}, {[]string{}, false}, {many(1), true}, {many(2), true}, {many(63), true}, {many(64), true}, {many(65), false}, {many(66), false}, {many(128), false}, {many(64 + 1<<16), false},
		{[]string{"a", "a"}, true}, {slices.Repeat([]string{"a"}, 64), true}, {slices.Repeat([]string{"a"}, 65), false}, {[]string{""}, false}, {[]string{"a", ""}, false}, {[]string{"", "a"}, false},
	} {
		for _, c := range []Command{of("get", x.keys...), {What: "get", Keys: x.keys, WithCas: true, Exp: 5}, {What: "get", Keys: x.keys, WithTouch: true, Exp: math.MinInt64}, {What: "get", Keys: x.keys, Verb: "what", Data: strings.Repeat("d", 2000)}} {
			if got := Good(c); got != x.want {
				t.Errorf("P17.1: Good(%s), with %d keys: %v", brief(c), len(x.keys), got)
			}
		}
	}
}

// badKeys are keys that are none, each for a cause of its own.
func badKeys() []string {
	return []string{"", " ", "a b", "a ", " a", "\xff", "a\xff", "\x00", "a\n", "\r", "\x7f", "\u0080", "\u00a0", "\u2028", "\u2029", "\xc3", "\xed\xa0\x80", strings.Repeat("k", 251), strings.Repeat("é", 126), strings.Repeat("k", 100000)}
}

func goodKeys() []string {
	return []string{"a", "~", "!", "\uFFFD", "\u00a1", "é", "😀", strings.Repeat("k", 249), strings.Repeat("k", 250), strings.Repeat("é", 125)}
}

// A key that is none is found wherever it stands.
func TestGoodGetOfOneBadKey(t *testing.T) {
	for _, n := range []int{1, 2, 3, 64} {
		for at := range n {
			for _, key := range badKeys() {
				keys := many(n)
				keys[at] = key
				if Good(of("get", keys...)) {
					t.Errorf("P17.1: Good of a Get of %d keys, with %.20q at %d", n, key, at)
				}
			}
			for _, key := range goodKeys() {
				keys := many(n)
				keys[at] = key
				if !Good(of("get", keys...)) {
					t.Errorf("P17.1: not Good: a Get of %d keys, with %.20q at %d", n, key, at)
				}
			}
		}
	}
}

func TestGoodStoreVerbs(t *testing.T) {
	for _, verb := range []string{"set", "add", "replace", "append", "prepend", "cas"} {
		for _, x := range []struct {
			data int
			want bool
		}{{0, true}, {1, true}, {1023, true}, {1024, true}, {1025, false}, {1 << 20, false}} {
			c := Command{What: "store", Verb: verb, Keys: []string{"k"}, Data: strings.Repeat("\xff", x.data)}
			if got := Good(c); got != x.want {
				t.Errorf("P17.1: Good of %s with %d bytes: %v", verb, x.data, got)
			}
			c.Keys = nil
			if Good(c) {
				t.Errorf("P17.1: Good of %s with %d bytes, with no key", verb, x.data)
			}
		}
	}
	for _, verb := range []string{"", " ", "Set", "SET", "set ", " set", "sets", "se", "et", "setadd", "set add", "get", "gets", "incr", "decr", "touch", "delete", "flush_all", "bad", "version", "quit", "store", "pend", "app", "pre", "c", "a", "\xff", strings.Repeat("set", 100000)} {
		for _, data := range []string{"", "data", strings.Repeat("d", 1025)} {
			if Good(Command{What: "store", Verb: verb, Keys: []string{"k"}, Data: data}) {
				t.Errorf("P17.1: Good of a Store with Verb %.20q", verb)
			}
		}
	}
	if api.MaxValue != 1024 {
		t.Errorf("MaxValue: %d", api.MaxValue)
	}
}

// one has the kinds that have one key.
func one(keys ...string) []Command {
	return []Command{
		{What: "store", Verb: "cas", Keys: keys, Data: "d"}, {What: "store", Verb: "add", Keys: keys, Quiet: true},
		of("arith", keys...), {What: "arith", Keys: keys, Down: true, By: math.MaxUint64},
		of("touch", keys...), {What: "touch", Keys: keys, Exp: math.MinInt64, Data: strings.Repeat("d", 1025)},
		of("delete", keys...), {What: "delete", Keys: keys, Verb: "what", Quiet: true},
	}
}

func TestGoodOfOneKey(t *testing.T) {
	for _, c := range one() {
		if Good(c) {
			t.Errorf("P17.1: Good with no key: %s", brief(c))
		}
	}
	for _, key := range badKeys() {
		for _, c := range slices.Concat(one(key), one(key, "k"), one(key, key)) {
			if Good(c) {
				t.Errorf("P17.1: Good with the key %.20q: %s", key, brief(c))
			}
		}
	}
	for _, key := range goodKeys() {
		for _, c := range slices.Concat(one(key), one(key, "k"), one(key, ""), one(key, strings.Repeat("k", 251)), one(append([]string{key}, many(100)...)...)) {
			if !Good(c) {
				t.Errorf("P17.1: not Good with the key %.20q: %s", key, brief(c))
			}
		}
	}
}

// Those that have no key are Good, or not, whatever stands among Keys.
func TestGoodOfNoKey(t *testing.T) {
	for _, keys := range [][]string{nil, {}, {"k"}, {""}, {"a b", "k"}, many(65)} {
		for _, x := range []struct {
			what, verb string
			want       bool
		}{
			{"flush", "", true}, {"flush", "what", true}, {"flush", "set", true},
			{"bad", "", false}, {"bad", "ERROR", false}, {"bad", "version", false}, {"bad", "set", false},
			{"word", "version", true}, {"word", "quit", true},
			{"word", "", false}, {"word", "other", false}, {"word", "Version", false}, {"word", "QUIT", false}, {"word", "quit ", false}, {"word", " quit", false}, {"word", "versio", false}, {"word", "version quit", false}, {"word", "set", false}, {"word", "flush_all", false},
			{"", "", false}, {"", "version", false}, {"", "set", false},
		} {
			for _, c := range []Command{{What: x.what, Verb: x.verb, Keys: keys}, {What: x.what, Verb: x.verb, Keys: keys, Quiet: true, Data: strings.Repeat("d", 1025)}} {
				if got := Good(c); got != x.want {
					t.Errorf("P17.1: Good(%s): %v", brief(c), got)
				}
			}
		}
	}
}

// A key of any bytes is one, if words' Key says so: all of one rune, and all of two bytes.
func TestGoodKeysAreWordsKeys(t *testing.T) {
	try := func(key string) {
		want := words.Key(key)
		for _, c := range append(one(key), of("get", key), of("get", "k", key, "l")) {
			if Good(c) != want {
				t.Fatalf("P17.1: Good with the key %q: %v", key, !want)
			}
		}
	}
	for r := range rune(0x3000) {
		try(string(r))
		try("a" + string(r))
	}
	for a := range 256 {
		for b := range 256 {
			try(string([]byte{byte(a), byte(b)}))
		}
	}
	for n := range 260 {
		try(strings.Repeat("k", n))
		try(strings.Repeat("é", n/2) + strings.Repeat("k", n%2))
	}
}
