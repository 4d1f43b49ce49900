package parse

import (
	"bytes"
	"fmt"
	"math/rand"
	"slices"
	"strings"
	"testing"

	"cellaret/event"
)

// pair is a parser and the chapter's words on it, fed with the same.
type pair struct {
	t     *testing.T
	p     *Parser
	q     *plain
	kinds map[string]int // how many of each kind were told
}

func (x *pair) feed(b []byte) {
	x.p.Feed(b)
	x.q.feed(string(b))
	if x.p.Waits() != x.q.waits() {
		x.t.Fatalf("P18.2: behind Feed of %.60q: %d wait, want %d", b, x.p.Waits(), x.q.waits())
	}
}

// next asks both once; was there something?
func (x *pair) next() bool {
	c, ok := x.p.Next()
	want, wantOK := x.q.next()
	if !same(c, want) || ok != wantOK {
		x.t.Fatalf("P18.2: Next: %.300s, %v; want %.300s, %v", shown(c), ok, shown(want), wantOK)
	}
	if x.p.Waits() != x.q.waits() {
		x.t.Fatalf("P18.2: behind Next (%.60s, %v): %d wait, want %d", shown(c), ok, x.p.Waits(), x.q.waits())
	}
	if ok && c.What != "bad" && !event.Good(c) {
		x.t.Fatalf("P18.1: not Good: %.300s", shown(c))
	}
	if ok {
		x.kinds[kind(c)]++
	}
	return ok
}

// kind tells a Bad's text; another command's name, and whether it is quiet.
func kind(c event.Command) string {
	if c.What == "bad" {
		return c.Verb
	}
	if event.Quiet(c) {
		return event.Name(c) + " quiet"
	}
	return event.Name(c)
}

func newPair(t *testing.T) *pair {
	return &pair{t: t, p: New(), q: &plain{}, kinds: map[string]int{}}
}

// allTexts hands each text of n letters to try.
func allTexts(letters string, n int, try func(b []byte)) {
	b := make([]byte, n)
	at := make([]int, n)
	for {
		for i, k := range at {
			b[i] = letters[k]
		}
		try(b)
		i := 0
		for ; i < n; i++ {
			if at[i]++; at[i] < len(letters) {
				break
			}
			at[i] = 0
		}
		if i == n {
			return
		}
	}
}

// Each short run of bytes that are ends of lines or none, behind all that a parser may be at: byte by byte,
// and at once.
func TestAllShortTexts(t *testing.T) {
	for _, head := range []string{"", "quit", set(0), set(1), set(2), set(2) + "hi", set(2) + "hi\r", set(2) + "hix", set(1025) + xs(1024), set(1025) + xs(1026), xs(2046), xs(2047), xs(2048), xs(2047) + "\r", xs(2049)} {
		for n := 1; n <= 6; n++ {
			allTexts("x\r\n", n, func(b []byte) {
				one, two := newPair(t), newPair(t)
				one.feed([]byte(head))
				two.feed(append([]byte(head), b...))
				for _, y := range b {
					one.next()
					one.feed([]byte{y})
				}
				for one.next() {
				}
				for two.next() {
				}
			})
		}
	}
}

func pick[T any](r *rand.Rand, l []T) T { return l[r.Intn(len(l))] }

func drawnBytes(r *rand.Rand, n int) string {
	b := make([]byte, n)
	for i := range b {
		b[i] = byte(r.Intn(256))
		if r.Intn(10) == 0 {
			b[i] = "\r\n 0"[r.Intn(4)]
		}
	}
	return string(b)
}

func drawnKey(r *rand.Rand) string {
	if r.Intn(20) == 0 {
		return pick(r, badKeys)
	}
	return pick(r, goodKeys)
}

// drawnNumber is one of the kind named, seldom with no form.
func drawnNumber(r *rand.Rand, name string) string {
	if r.Intn(25) == 0 {
		return pick(r, notNumbers)
	}
	l := []string{"0", "1", "7", fmt.Sprint(r.Intn(1000)), bounds[name].least, bounds[name].most, fmt.Sprint(r.Uint32())}
	if name == "bytes" {
		l = []string{"0", "1", "2", "3", "10", "1023", "1024", "1025", "3000"}
	}
	if r.Intn(30) == 0 {
		l = []string{"-1", "4294967296", "2147483648", "18446744073709551615", "18446744073709551616"}
	}
	return pick(r, l)
}

// drawnLine is a line of the table, seldom with a word too many or too few.
func drawnLine(r *rand.Rand) string {
	first := pick(r, firsts)
	if r.Intn(20) == 0 {
		first = pick(r, []string{"what", "GET", "store", "", "get\t", "\xff"})
	}
	form, may, _ := strings.Cut(forms[first], "|")
	l := []string{first}
	for _, name := range strings.Fields(form) {
		switch name {
		case "keys":
			for range pick(r, []int{1, 1, 2, 3, 20, 63, 64, 65}) {
				l = append(l, drawnKey(r))
			}
		case "key":
			l = append(l, drawnKey(r))
		default:
			l = append(l, drawnNumber(r, name))
		}
	}
	if may != "" && r.Intn(3) == 0 {
		l = append(l, pick(r, strings.Split(may, "|")))
	}
	switch r.Intn(25) {
	case 0:
		l = append(l, pick(r, []string{"noreply", "0", "x"}))
	case 1:
		l = l[:len(l)-1]
	}
	return strings.Join(l, pick(r, []string{" ", " ", " ", "  "}))
}

// drawnPart is what a client may send at once: a line, with its data, with faults; or rubbish.
func drawnPart(r *rand.Rand) string {
	end := pick(r, []string{"\n", "\r\n", "\r\n", "\r\n"})
	switch r.Intn(30) {
	case 0:
		return drawnBytes(r, r.Intn(50))
	case 1:
		return xs(pick(r, []int{2047, 2048, 2049, 2050, 5000})) + pick(r, []string{"", "\r", "\r\r"}) + end
	case 2:
		return full(pick(r, []int{2046, 2047, 2048, 2049})) + end
	}
	line := drawnLine(r)
	part := line + end
	if _, n := plainOne(line); n >= 0 && n < 100000 {
		data := drawnBytes(r, n)
		if r.Intn(4) == 0 {
			data = strings.Repeat("quit\n", n/5+1)[:n]
		}
		part += data + pick(r, []string{end, end, end, end, end, "x" + end, "\r" + end, "\rx" + end, xs(3000) + end, ""})
	}
	return part
}

func drawnText(r *rand.Rand, parts int) []byte {
	var b []byte
	for range parts {
		b = append(b, drawnPart(r)...)
	}
	return b
}

// drawnPieces cuts a text at drawn places, some of them together.
func drawnPieces(r *rand.Rand, b []byte) [][]byte {
	var l [][]byte
	most := pick(r, []int{1, 2, 5, 30, 300, 5000})
	for len(b) > 0 {
		n := min(r.Intn(most+1), len(b))
		l = append(l, b[:n])
		b = b[n:]
	}
	return l
}

// Long runs of drawn texts, fed in drawn pieces. They tell nothing, if some kind of command was never told.
func TestLongRuns(t *testing.T) {
	sum := map[string]int{}
	for round := range 150 {
		r := rand.New(rand.NewSource(int64(round)))
		x := newPair(t)
		often := r.Intn(4) + 1
		for _, b := range drawnPieces(r, drawnText(r, 50)) {
			x.feed(b)
			for r.Intn(4) < often && x.next() {
			}
		}
		for x.next() {
		}
		for name, n := range x.kinds {
			sum[name] += n
		}
	}
	l := []string{"ERROR", formatText, deltaText, timeText, largeText, chunkText, longText, "cas", "cas quiet"}
	for _, first := range firsts {
		l = append(l, first)
		if strings.Contains(forms[first], "|") {
			l = append(l, first+" quiet")
		}
	}
	for _, name := range l {
		if sum[name] < 20 {
			t.Errorf("%q was told %d times", name, sum[name])
		}
	}
}

// all tells what pieces make, with Next asked behind each one.
func all(pieces [][]byte) ([]string, int) {
	p := New()
	var l []string
	for _, b := range pieces {
		p.Feed(b)
		for {
			c, ok := p.Next()
			if !ok {
				break
			}
			l = append(l, shown(c))
		}
	}
	return l, p.Waits()
}

// P18.3: the same bytes cut anyhow are the same commands, and as many wait at the end.
func TestSameHoweverCut(t *testing.T) {
	for round := range 40 {
		r := rand.New(rand.NewSource(int64(1000 + round)))
		b := append(drawnText(r, 20), "\nquit\n"...)
		want, left := all([][]byte{b})
		cuts := [][][]byte{slices.Collect(slices.Chunk(b, 1)), slices.Collect(slices.Chunk(b, 2)), slices.Collect(slices.Chunk(b, 2049)), slices.Collect(slices.Chunk(b, 2050))}
		for range 20 {
			cuts = append(cuts, drawnPieces(r, b))
		}
		for _, pieces := range cuts {
			if got, waits := all(pieces); !slices.Equal(got, want) || waits != left {
				t.Fatalf("P18.3: %d pieces: %d commands and %d wait, want %d and %d", len(pieces), len(got), waits, len(want), left)
			}
		}
	}
}

// P18.3: a text of all that the chapter names, cut at each place, and at each two places near each other.
func TestSameCutAtEachPlace(t *testing.T) {
	b := []byte("get a\r\nset a 0 0 2\r\nhi\r\nset a 0 0 2\nhi\rx\r\n\nset k 0 0 3 noreply\r\n\r\n\r\r\nquit\r\r\nset k 0 0 0\n\nget \xff\xc3\xa9\nset é 0 0 2\né\nset k 0 0 1030\n" + xs(1030) + "\r\nadd k 0 0 1030\n" + xs(1031) + "\r\n" + xs(2048) + "\r\n" + xs(2048) + "\r\r\n" + xs(2049) + "\nquit\r\n")
	want, left := all([][]byte{b})
	if len(want) != 15 || left != 0 {
		t.Fatalf("P18.2: %d commands, %d wait", len(want), left)
	}
	for i := range b {
		for _, j := range []int{i, i + 1, i + 2, i + 3} {
			j = min(j, len(b))
			if got, waits := all([][]byte{b[:i], b[i:j], b[j:]}); !slices.Equal(got, want) || waits != left {
				t.Fatalf("P18.3: cut at %d and %d: %d commands and %d wait", i, j, len(got), waits)
			}
		}
	}
}

// All that is fed ahead of the first Next is as if it had come piece by piece.
func TestSameHoweverLateNextIs(t *testing.T) {
	for round := range 20 {
		r := rand.New(rand.NewSource(int64(2000 + round)))
		b := drawnText(r, 60)
		want, _ := all(drawnPieces(r, b))
		p := New()
		for _, piece := range drawnPieces(r, b) {
			p.Feed(piece)
		}
		if p.Waits() != len(b) {
			t.Fatalf("P18.2: %d wait, want %d", p.Waits(), len(b))
		}
		var got []string
		for c, ok := p.Next(); ok; c, ok = p.Next() {
			got = append(got, shown(c))
		}
		if !slices.Equal(got, want) {
			t.Fatalf("P18.3: %d commands, want %d", len(got), len(want))
		}
	}
}

// Rubbish: any bytes, and words of the protocol in any order.
func TestRubbish(t *testing.T) {
	some := []string{"get", "set", "cas", "gat", "incr", "touch", "delete", "flush_all", "quit", " ", " ", " ", "a", "0", "1", "2", "noreply", "-", "\n", "\r\n", "\r", "\xff", "é", "\x00", "1024", "2000"}
	for round := range 40 {
		r := rand.New(rand.NewSource(int64(3000 + round)))
		x := newPair(t)
		for range 3000 {
			s := pick(r, some)
			if r.Intn(10) == 0 {
				s = drawnBytes(r, r.Intn(4))
			}
			x.feed([]byte(s))
			if r.Intn(3) == 0 {
				x.next()
			}
		}
		for x.next() {
		}
	}
}

// Long runs of drawn lines for One.
func TestOneLongRuns(t *testing.T) {
	r := rand.New(rand.NewSource(4000))
	good := 0
	for range 60000 {
		line := drawnLine(r)
		if r.Intn(10) == 0 && len(line) > 0 {
			b := []byte(line)
			b[r.Intn(len(b))] = byte(r.Intn(256))
			line = string(b)
		}
		if c, _ := holdOne(t, line); c.What != "bad" {
			good++
		}
	}
	if good < 20000 || good > 55000 {
		t.Errorf("%d of 60000 lines were good", good)
	}
}

// R5: what is told hangs on what was fed alone, not on other parsers, nor on what One was asked in between.
func TestSameBytesSameAnswers(t *testing.T) {
	r := rand.New(rand.NewSource(5000))
	b := drawnText(r, 100)
	var l []*pair
	for range 5 {
		l = append(l, newPair(t))
	}
	for len(b) > 0 {
		n := min(r.Intn(40), len(b))
		for _, i := range r.Perm(len(l)) {
			l[i].feed(bytes.Clone(b[:n]))
			holdOne(t, drawnLine(r))
			for l[i].next() {
			}
		}
		b = b[n:]
	}
}
