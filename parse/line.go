package parse

import (
	"math"
	"slices"

	"cellaret/api"
	"cellaret/event"
	"cellaret/words"
)

// What is told of what has no form.
const (
	unknown  = "ERROR"
	badLine  = "CLIENT_ERROR bad command line format"
	badDelta = "CLIENT_ERROR invalid numeric delta argument"
	badTime  = "CLIENT_ERROR invalid exptime argument"
	badChunk = "CLIENT_ERROR bad data chunk"
	tooLong  = "CLIENT_ERROR line too long"
	tooLarge = "SERVER_ERROR object too large for cache"
)

const noData = -1 // as the size of the data behind a line

func bad(text string) event.Command { return event.Command{What: "bad", Verb: text} }

// One reads a line.
func One(line string) (event.Command, int) {
	w := words.Split(line)
	if len(w) == 0 {
		return bad(unknown), noData
	}
	switch w[0] {
	case "set", "add", "replace", "append", "prepend":
		return store(w, 5)
	case "cas":
		return store(w, 6)
	}
	return alone(w), noData
}

// alone reads the words of a line that has no data behind it.
func alone(w []string) event.Command {
	switch w[0] {
	case "get", "gets":
		return get(w)
	case "gat", "gats":
		return gat(w)
	case "incr", "decr":
		return arith(w)
	case "touch":
		return touch(w)
	case "delete":
		return remove(w)
	case "flush_all":
		return flush(w)
	case "version", "quit":
		return word(w)
	}
	return bad(unknown)
}

func get(w []string) event.Command {
	if len(w) < 2 {
		return bad(unknown)
	}
	return checked(event.Command{What: "get", Keys: w[1:], WithCas: w[0] == "gets"}, true, badLine)
}

func gat(w []string) event.Command {
	if len(w) < 3 {
		return bad(unknown)
	}
	exp, ok := words.Signed(w[1])
	return checked(event.Command{What: "get", Keys: w[2:], WithCas: w[0] == "gats", WithTouch: true, Exp: exp}, ok, badTime)
}

// store reads the words of a Store, n without the last one that may stand there; and how many bytes of data
// are behind it.
func store(w []string, n int) (event.Command, int) {
	quiet, ok := last(w, n, "noreply")
	if !ok {
		return bad(unknown), noData
	}
	c := event.Command{What: "store", Verb: w[0], Keys: []string{w[1]}, Quiet: quiet}
	flags, isFlags := upTo(w[2], math.MaxUint32)
	exp, isExp := words.Signed(w[3])
	size, isSize := upTo(w[4], math.MaxInt32)
	isCas := true
	if w[0] == "cas" {
		c.Cas, isCas = words.Number(w[5])
	}
	c.Flags, c.Exp = uint32(flags), exp
	c = checked(c, isFlags && isExp && isSize && isCas, badLine)
	switch {
	case c.What != "store":
		return c, noData
	case size > api.MaxValue:
		return bad(tooLarge), int(size)
	}
	return c, int(size)
}

func arith(w []string) event.Command {
	quiet, ok := last(w, 3, "noreply")
	if !ok {
		return bad(unknown)
	}
	by, ok := words.Number(w[2])
	return checked(event.Command{What: "arith", Keys: []string{w[1]}, By: by, Down: w[0] == "decr", Quiet: quiet}, ok, badDelta)
}

func touch(w []string) event.Command {
	quiet, ok := last(w, 3, "noreply")
	if !ok {
		return bad(unknown)
	}
	exp, ok := words.Signed(w[2])
	return checked(event.Command{What: "touch", Keys: []string{w[1]}, Exp: exp, Quiet: quiet}, ok, badTime)
}

func remove(w []string) event.Command {
	quiet, ok := last(w, 2, "noreply", "0")
	if !ok {
		return bad(unknown)
	}
	return checked(event.Command{What: "delete", Keys: []string{w[1]}, Quiet: quiet}, true, badLine)
}

func flush(w []string) event.Command {
	quiet, ok := last(w, 1, "noreply", "0")
	if !ok {
		return bad(unknown)
	}
	return event.Command{What: "flush", Quiet: quiet}
}

func word(w []string) event.Command {
	if len(w) != 1 {
		return bad(unknown)
	}
	return event.Command{What: "word", Verb: w[0]}
}

// last tells whether there are n words, or one more that is among those that may be the last; and whether
// that one asks for no answer.
func last(w []string, n int, may ...string) (quiet, ok bool) {
	if len(w) == n+1 && slices.Contains(may, w[n]) {
		return w[n] == "noreply", true
	}
	return false, len(w) == n
}

// upTo reads a number that is at most the most.
func upTo(s string, most uint64) (uint64, bool) {
	n, ok := words.Number(s)
	return n, ok && n <= most
}

// checked tells the command, if its keys may be, and its numbers have their form; else the Bad of its keys
// ahead of that of its numbers.
func checked(c event.Command, numbers bool, text string) event.Command {
	switch {
	case !event.Good(c):
		return bad(badLine)
	case !numbers:
		return bad(text)
	}
	return c
}
