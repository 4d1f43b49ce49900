package event

import (
	"fmt"
	"math"
	"math/rand"
	"strings"
	"testing"
)

// fields set a command's fields one by one, each to what could be told where it counts.
var fields = []struct {
	name string
	set  func(c *Command)
}{
	{"Verb", func(c *Command) { c.Verb = "add" }},
	{"Keys", func(c *Command) { c.Keys = []string{"a", "b"} }},
	{"Data", func(c *Command) { c.Data = "data" }},
	{"Flags", func(c *Command) { c.Flags = math.MaxUint32 }},
	{"Exp", func(c *Command) { c.Exp = math.MinInt64 }},
	{"Cas", func(c *Command) { c.Cas = math.MaxUint64 }},
	{"By", func(c *Command) { c.By = math.MaxUint64 }},
	{"WithCas", func(c *Command) { c.WithCas = true }},
	{"WithTouch", func(c *Command) { c.WithTouch = true }},
	{"Down", func(c *Command) { c.Down = true }},
	{"Quiet", func(c *Command) { c.Quiet = true }},
}

// Each kind with each choice of its fields set.
func TestAllChoicesOfFields(t *testing.T) {
	for _, what := range kinds {
		for choice := range 1 << len(fields) {
			c := Command{What: what}
			for i, f := range fields {
				if choice>>i&1 == 1 {
					f.set(&c)
				}
			}
			hold(t, c)
		}
	}
}

// told are all answers of a command.
func told(c Command) string {
	return fmt.Sprintf("%q %v %q %v %s", Name(c), Quiet(c), Keys(c), Good(c), typed(Typed(c)))
}

// A field that does not count of a kind, set to anything, is seen by none of its answers.
func TestFieldsThatDoNotCount(t *testing.T) {
	r := rand.New(rand.NewSource(1))
	for _, what := range kinds {
		for _, f := range fields {
			c := Command{What: what}
			if has(c, f.name) || f.name == "Keys" && has(c, "Key") {
				continue
			}
			for range 300 {
				c = drawn(r)
				c.What = what
				want := told(c)
				f.set(&c)
				if got := told(c); got != want {
					t.Fatalf("P17.1: of a %q, %s is seen: %.200s, want %.200s", what, f.name, got, want)
				}
			}
		}
	}
}

// Of a kind that has one key those behind it are seen by none of its answers.
func TestKeysBehindTheFirst(t *testing.T) {
	r := rand.New(rand.NewSource(2))
	for range 3000 {
		c := drawn(r)
		if !has(c, "Key") || len(c.Keys) == 0 {
			continue
		}
		want := told(c)
		c.Keys = append(c.Keys[:1:1], drawn(r).Keys...)
		if got := told(c); got != want {
			t.Fatalf("P17.1: the keys behind the first are seen: %.200s, want %.200s", got, want)
		}
	}
}

var (
	someWhats = []string{"", "none", "Get", "STORE", "word ", " bad", "gets", "flush_all"}
	someVerbs = []string{"set", "add", "replace", "append", "prepend", "cas", "set", "cas", "", "Set", "sets", "get", "version", "quit", "quit ", "other", "ERROR", "\xff"}
	someSizes = []int{0, 1, 20, 1023, 1024, 1025, 3000}
	someCount = []int{0, 1, 1, 1, 2, 3, 10, 63, 64, 65, 100}
)

func pick[T any](r *rand.Rand, l []T) T { return l[r.Intn(len(l))] }

func drawnKey(r *rand.Rand) string {
	switch r.Intn(5) {
	case 0:
		return pick(r, goodKeys())
	case 1:
		b := make([]byte, r.Intn(6))
		for i := range b {
			b[i] = byte(r.Intn(256))
		}
		return string(b)
	}
	return fmt.Sprint("k", r.Intn(50))
}

func drawnKeys(r *rand.Rand) []string {
	var l []string
	for range pick(r, someCount) {
		l = append(l, drawnKey(r))
	}
	if r.Intn(2) == 0 { // all of them good ones, or long lists would seldom be Good
		for i := range l {
			l[i] = fmt.Sprint("k", i%40)
		}
	}
	if len(l) > 0 && r.Intn(4) == 0 {
		l[r.Intn(len(l))] = pick(r, badKeys())
	}
	return l
}

// drawn draws a command of any kind, with any fields set.
func drawn(r *rand.Rand) Command {
	c := Command{What: pick(r, kinds), Verb: pick(r, someVerbs), Keys: drawnKeys(r), Data: strings.Repeat("d", pick(r, someSizes))}
	if r.Intn(20) == 0 {
		c.What = pick(r, someWhats)
	}
	c.Flags, c.Exp, c.Cas, c.By = r.Uint32(), int64(r.Uint64()), r.Uint64(), r.Uint64()
	c.WithCas, c.WithTouch, c.Down, c.Quiet = r.Intn(2) == 0, r.Intn(2) == 0, r.Intn(2) == 0, r.Intn(2) == 0
	return c
}

// Long runs of drawn commands. They tell nothing, if some kind was never Good, or always.
func TestLongRuns(t *testing.T) {
	var good, not [9]int
	for round := range 10 {
		r := rand.New(rand.NewSource(int64(round)))
		for range 3000 {
			c := drawn(r)
			hold(t, c)
			for i, what := range kinds {
				if c.What == what && Good(c) {
					good[i]++
				} else if c.What == what {
					not[i]++
				}
			}
		}
	}
	for i, what := range kinds {
		never, always := what == "bad" || what == "", what == "flush"
		if (good[i] < 300) != never || (not[i] < 300) != always {
			t.Errorf("of a %q %d were Good, and %d not", what, good[i], not[i])
		}
	}
}

// R5: what is told hangs on the command alone, not on what was told ahead.
func TestSameCommandSameAnswers(t *testing.T) {
	var l []Command
	var first []string
	r := rand.New(rand.NewSource(3))
	for range 1000 {
		l = append(l, drawn(r))
		first = append(first, told(l[len(l)-1]))
	}
	for range 2000 {
		i := r.Intn(len(l))
		if got := told(l[i]); got != first[i] {
			t.Fatalf("R5: of %s: %.200s, was %.200s", brief(l[i]), got, first[i])
		}
	}
}
