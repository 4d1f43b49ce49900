package parse

import (
	"fmt"
	"math"
	"math/big"
	"reflect"
	"slices"
	"strings"
	"testing"

	"cellaret/event"
	"cellaret/words"
)

// forms is P18.1's table: what follows each first word. Where there is a | the line may end, or have one of
// the words behind it and end.
var forms = map[string]string{
	"get": "keys", "gets": "keys", "gat": "time keys", "gats": "time keys",
	"set": "key flags exp bytes |noreply", "add": "key flags exp bytes |noreply", "replace": "key flags exp bytes |noreply",
	"append": "key flags exp bytes |noreply", "prepend": "key flags exp bytes |noreply", "cas": "key flags exp bytes cas |noreply",
	"incr": "key by |noreply", "decr": "key by |noreply", "touch": "key time |noreply", "delete": "key |noreply|0",
	"flush_all": "|noreply|0", "version": "", "quit": "",
}

// bounds are the least and the greatest of each number, and what is told of one that has no form.
var bounds = map[string]struct{ least, most, text string }{
	"flags": {"0", "4294967295", "CLIENT_ERROR bad command line format"},
	"exp":   {"-9223372036854775808", "9223372036854775807", "CLIENT_ERROR bad command line format"},
	"bytes": {"0", "2147483647", "CLIENT_ERROR bad command line format"},
	"cas":   {"0", "18446744073709551615", "CLIENT_ERROR bad command line format"},
	"by":    {"0", "18446744073709551615", "CLIENT_ERROR invalid numeric delta argument"},
	"time":  {"-9223372036854775808", "9223372036854775807", "CLIENT_ERROR invalid exptime argument"},
}

func great(s string) *big.Int {
	n, ok := new(big.Int).SetString(s, 10)
	if !ok {
		panic(s)
	}
	return n
}

// plainNumber reads a number of the kind named by great numbers.
func plainNumber(name, s string) (*big.Int, bool) {
	b := bounds[name]
	digits := s
	if b.least != "0" {
		digits = strings.TrimPrefix(s, "-")
	}
	if len(digits) < 1 || len(digits) > 20 || strings.Trim(digits, "0123456789") != "" {
		return nil, false
	}
	n := great(s)
	return n, n.Cmp(great(b.least)) >= 0 && n.Cmp(great(b.most)) <= 0
}

// plainWords are the runs of bytes that are not 32.
func plainWords(line string) []string {
	return slices.DeleteFunc(strings.Split(line, " "), func(s string) bool { return s == "" })
}

// parts lays words to the names of a form; false, if there are too few or too many.
func parts(form string, w []string) (names, values []string, ok bool) {
	front, may, _ := strings.Cut(form, "|")
	names = strings.Fields(front)
	if len(names) > 0 && names[len(names)-1] == "keys" {
		for len(names) < len(w) {
			names = append(names, "keys")
		}
	}
	if len(w) == len(names) {
		return names, w, true
	}
	if may != "" && len(w) == len(names)+1 && slices.Contains(strings.Split(may, "|"), w[len(names)]) {
		return append(names, "last"), w, true
	}
	return nil, nil, false
}

// plainOne is P18.1, form by form.
func plainOne(line string) (event.Command, int) {
	w := plainWords(line)
	if len(w) == 0 {
		return event.Command{What: "bad", Verb: "ERROR"}, -1
	}
	form, known := forms[w[0]]
	names, values, ok := parts(form, w[1:])
	if !known || !ok {
		return event.Command{What: "bad", Verb: "ERROR"}, -1
	}
	var keys []string
	for i, name := range names {
		if name == "key" || name == "keys" {
			keys = append(keys, values[i])
		}
	}
	if len(keys) > 64 || slices.ContainsFunc(keys, func(k string) bool { return !words.Key(k) }) {
		return event.Command{What: "bad", Verb: "CLIENT_ERROR bad command line format"}, -1
	}
	n := map[string]*big.Int{}
	for i, name := range names {
		if bounds[name].text == "" {
			continue
		}
		if n[name], ok = plainNumber(name, values[i]); !ok {
			return event.Command{What: "bad", Verb: bounds[name].text}, -1
		}
	}
	size := -1
	if n["bytes"] != nil {
		size = int(n["bytes"].Int64())
	}
	if size > 1024 {
		return event.Command{What: "bad", Verb: "SERVER_ERROR object too large for cache"}, size
	}
	return plainCommand(w[0], keys, n, w[len(w)-1] == "noreply" && names[len(names)-1] == "last"), size
}

// plainCommand is the table's last column.
func plainCommand(first string, keys []string, n map[string]*big.Int, quiet bool) event.Command {
	number := func(name string) *big.Int {
		if n[name] == nil {
			return new(big.Int)
		}
		return n[name]
	}
	switch form := forms[first]; {
	case strings.Contains(form, "keys"):
		return event.Command{What: "get", Keys: keys, WithCas: first == "gets" || first == "gats", WithTouch: first[1] == 'a', Exp: number("time").Int64()}
	case strings.Contains(form, "bytes"):
		return event.Command{What: "store", Verb: first, Keys: keys, Flags: uint32(number("flags").Uint64()), Exp: number("exp").Int64(), Cas: number("cas").Uint64(), Quiet: quiet}
	case strings.Contains(form, "by"):
		return event.Command{What: "arith", Keys: keys, By: number("by").Uint64(), Down: first == "decr", Quiet: quiet}
	case strings.Contains(form, "time"):
		return event.Command{What: "touch", Keys: keys, Exp: number("time").Int64(), Quiet: quiet}
	case strings.Contains(form, "key"):
		return event.Command{What: "delete", Keys: keys, Quiet: quiet}
	case strings.Contains(form, "|"):
		return event.Command{What: "flush", Quiet: quiet}
	}
	return event.Command{What: "word", Verb: first}
}

// plain is P18.2 on one text: what was fed, and is not used up.
type plain struct {
	rest  string
	over  bool
	wants []event.Command // the one whose data is waited for, or none
	size  int
}

var none = event.Command{}

func (p *plain) feed(s string) { p.rest += s }

func (p *plain) waits() int { return len(p.rest) }

func (p *plain) next() (event.Command, bool) {
	if p.over {
		_, tail, found := strings.Cut(p.rest, "\n")
		p.rest, p.over = tail, !found
		if p.over {
			return none, false
		}
	}
	if p.wants == nil {
		line, tail, whole := strings.Cut(p.rest, "\n")
		line, _ = strings.CutSuffix(line, "\r")
		if len(line) > 2048 {
			p.rest, p.over = tail, !whole
			return event.Command{What: "bad", Verb: "CLIENT_ERROR line too long"}, true
		}
		if !whole {
			return none, false
		}
		p.rest = tail
		c, n := plainOne(line)
		if n < 0 {
			return c, true
		}
		p.wants, p.size = []event.Command{c}, n
	}
	return p.stored()
}

func (p *plain) stored() (event.Command, bool) {
	if len(p.rest) < p.size {
		return none, false
	}
	c, data, behind := p.wants[0], p.rest[:p.size], p.rest[p.size:]
	if behind == "" || behind == "\r" {
		return none, false
	}
	p.wants = nil
	for _, end := range []string{"\r\n", "\n"} {
		if tail, ok := strings.CutPrefix(behind, end); ok {
			p.rest = tail
			if c.What == "store" {
				c.Data = data
			}
			return c, true
		}
	}
	p.rest, p.over = behind, true
	return event.Command{What: "bad", Verb: "CLIENT_ERROR bad data chunk"}, true
}

// shown shows a command whole, with no difference between a list that is nil and an empty one.
func shown(c event.Command) string {
	return fmt.Sprintf("%s %q %q %q flags %d exp %d cas %d by %d %v %v %v %v", c.What, c.Verb, c.Keys, c.Data, c.Flags, c.Exp, c.Cas, c.By, c.WithCas, c.WithTouch, c.Down, c.Quiet)
}

// same tells what shown would, sooner.
func same(a, b event.Command) bool {
	keys := slices.Equal(a.Keys, b.Keys)
	a.Keys, b.Keys = nil, nil
	return keys && reflect.DeepEqual(a, b)
}

// holdOne holds One of a line against the chapter's words, and what it tells against the chapter of commands.
func holdOne(t *testing.T, line string) (event.Command, int) {
	t.Helper()
	c, n := One(line)
	want, wantN := plainOne(line)
	if !same(c, want) || n != wantN {
		t.Fatalf("P18.1: One(%.300q): %.300s, %d; want %.300s, %d", line, shown(c), n, shown(want), wantN)
	}
	if event.Good(c) == (c.What == "bad") {
		t.Fatalf("P18.1: One(%.300q): %.300s: Good is %v", line, shown(c), event.Good(c))
	}
	if n > math.MaxInt32 || n < -1 {
		t.Fatalf("P18.1: One(%.300q): %d bytes of data", line, n)
	}
	return c, n
}

// isBad asks that One of a line is a Bad with no data behind it.
func isBad(t *testing.T, line, text string) {
	t.Helper()
	if c, n := holdOne(t, line); shown(c) != shown(event.Command{What: "bad", Verb: text}) || n != -1 {
		t.Errorf("P18.1: One(%.300q): %.300s, %d; want %s", line, shown(c), n, text)
	}
}

// is asks what One of a line is.
func is(t *testing.T, line string, want event.Command, size int) {
	t.Helper()
	if c, n := holdOne(t, line); shown(c) != shown(want) || n != size {
		t.Errorf("P18.1: One(%.300q): %.300s, %d; want %.300s, %d", line, shown(c), n, shown(want), size)
	}
}
