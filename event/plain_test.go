package event

import (
	"fmt"
	"slices"
	"strings"
	"testing"

	"cellaret/words"
)

// counting is the chapter's table: each kind's fields. Key stands for the first of Keys.
var counting = map[string]string{
	"get":    "Keys WithCas WithTouch Exp",
	"store":  "Verb Key Data Flags Exp Cas Quiet",
	"arith":  "Key By Down Quiet",
	"touch":  "Key Exp Quiet",
	"delete": "Key Quiet",
	"flush":  "Quiet",
	"bad":    "Verb",
	"word":   "Verb",
}

// kinds are the table's rows in its order, and one that is none.
var kinds = []string{"get", "store", "arith", "touch", "delete", "flush", "bad", "word", ""}

// has tells whether a field counts of a command.
func has(c Command, field string) bool {
	return slices.Contains(strings.Fields(counting[c.What]), field)
}

// plainName is P17.1's first sentence.
func plainName(c Command) string {
	at := 0
	if c.WithTouch {
		at += 2
	}
	if c.WithCas {
		at++
	}
	down := 0
	if c.Down {
		down = 1
	}
	return map[string]string{
		"get":    []string{"get", "gets", "gat", "gats"}[at],
		"store":  c.Verb,
		"arith":  []string{"incr", "decr"}[down],
		"touch":  "touch",
		"delete": "delete",
		"flush":  "flush_all",
		"bad":    "bad",
		"word":   c.Verb,
	}[c.What]
}

func plainQuiet(c Command) bool { return c.Quiet && has(c, "Quiet") }

func plainKeys(c Command) []string {
	if has(c, "Keys") {
		return slices.Clone(c.Keys)
	}
	if has(c, "Key") {
		return append(slices.Clone(c.Keys), "")[:1]
	}
	return nil
}

func plainGood(c Command) bool {
	for _, key := range plainKeys(c) {
		if !words.Key(key) {
			return false
		}
	}
	among := func(l string) bool { return c.Verb != "" && strings.Contains(l, " "+c.Verb+" ") }
	return c.What == "get" && len(c.Keys) > 0 && len(c.Keys) < 65 ||
		c.What == "store" && among(" set add replace append prepend cas ") && len(c.Data) < 1025 ||
		c.What == "arith" || c.What == "touch" || c.What == "delete" || c.What == "flush" ||
		c.What == "word" && among(" version quit ")
}

// plainTyped shows a kind's value by the table.
func plainTyped(c Command) string {
	if counting[c.What] == "" {
		return "none"
	}
	key := append(slices.Clone(c.Keys), "")[0]
	all := map[string]string{
		"Keys": fmt.Sprintf("%q", c.Keys), "WithCas": fmt.Sprint(c.WithCas), "WithTouch": fmt.Sprint(c.WithTouch), "Exp": fmt.Sprint(c.Exp),
		"Verb": fmt.Sprintf("%q", c.Verb), "Key": fmt.Sprintf("%q", key), "Data": fmt.Sprintf("%q", c.Data), "Flags": fmt.Sprint(c.Flags),
		"Cas": fmt.Sprint(c.Cas), "Quiet": fmt.Sprint(c.Quiet), "By": fmt.Sprint(c.By), "Down": fmt.Sprint(c.Down),
	}
	var l []string
	for _, field := range strings.Fields(counting[c.What]) {
		l = append(l, all[field])
	}
	return c.What + " " + strings.Join(l, " ")
}

// typed shows what Typed tells, with the table's fields in their order.
func typed(k any) string {
	switch k := k.(type) {
	case Get:
		return fmt.Sprintf("get %q %v %v %v", k.Keys, k.WithCas, k.WithTouch, k.Exp)
	case Store:
		return fmt.Sprintf("store %q %q %q %v %v %v %v", k.Verb, k.Key, k.Data, k.Flags, k.Exp, k.Cas, k.Quiet)
	case Arith:
		return fmt.Sprintf("arith %q %v %v %v", k.Key, k.By, k.Down, k.Quiet)
	case Touch:
		return fmt.Sprintf("touch %q %v %v", k.Key, k.Exp, k.Quiet)
	case Delete:
		return fmt.Sprintf("delete %q %v", k.Key, k.Quiet)
	case Flush:
		return fmt.Sprintf("flush %v", k.Quiet)
	case Bad:
		return fmt.Sprintf("bad %q", k.Text)
	case Word:
		return fmt.Sprintf("word %q", k.Name)
	case nil:
		return "none"
	}
	return fmt.Sprintf("%T", k)
}

// brief shows a command with its long texts cut.
func brief(c Command) string {
	c.Data = fmt.Sprintf("%.20q of %d bytes", c.Data, len(c.Data))
	return fmt.Sprintf("%.300q", fmt.Sprintf("%+v", c))
}

// hold holds all calls on a command against the chapter's words.
func hold(t *testing.T, c Command) {
	t.Helper()
	ahead := c
	ahead.Keys = slices.Clone(c.Keys)
	if got, want := Name(c), plainName(c); got != want {
		t.Fatalf("P17.1: Name(%s): %q, want %q", brief(c), got, want)
	}
	if got, want := Quiet(c), plainQuiet(c); got != want {
		t.Fatalf("P17.1: Quiet(%s): %v", brief(c), got)
	}
	if got, want := Keys(c), plainKeys(c); !slices.Equal(got, want) {
		t.Fatalf("P17.1: Keys(%s): %q, want %q", brief(c), got, want)
	}
	if got, want := Good(c), plainGood(c); got != want {
		t.Fatalf("P17.1: Good(%s): %v", brief(c), got)
	}
	if got, want := typed(Typed(c)), plainTyped(c); got != want {
		t.Fatalf("P17.1: Typed(%s): %.300s, want %.300s", brief(c), got, want)
	}
	if !slices.Equal(c.Keys, ahead.Keys) {
		t.Fatalf("R4: the Keys handed in: %q, were %q", c.Keys, ahead.Keys)
	}
}
