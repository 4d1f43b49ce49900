package parse

import (
	"bytes"
	"fmt"
	"slices"
	"strings"
	"testing"

	"cellaret/event"
)

// brief tells a command in few bytes: Bad's text, or its name, its keys and how its data begins and ends.
func brief(c event.Command) string {
	switch c.What {
	case "bad":
		return c.Verb
	case "store":
		data := fmt.Sprintf("%q", c.Data)
		if len(c.Data) > 40 {
			data = fmt.Sprintf("%q of %d", c.Data[:3], len(c.Data))
		}
		return event.Name(c) + strings.Join(c.Keys, "+") + data
	}
	return event.Name(c) + strings.Join(c.Keys, "+")
}

// told is what Next tells till it tells nothing.
func told(t *testing.T, p *Parser) []string {
	t.Helper()
	var l []string
	for {
		c, ok := p.Next()
		if !ok {
			if shown(c) != shown(event.Command{}) {
				t.Errorf("R2: Next tells nothing, but %.200s", shown(c))
			}
			return l
		}
		l = append(l, brief(c))
	}
}

// step is bytes that are fed; how many wait then; what is told till nothing is; how many wait behind that.
type step struct {
	fed   string
	waits int
	want  string
	left  int
}

func walk(t *testing.T, name string, steps ...step) {
	t.Helper()
	p := New()
	for i, s := range steps {
		p.Feed([]byte(s.fed))
		if p.Waits() != s.waits {
			t.Errorf("P18.2: %s: %d wait behind Feed %d, want %d", name, p.Waits(), i, s.waits)
		}
		if got := strings.Join(told(t, p), "|"); got != s.want {
			t.Errorf("P18.2: %s: behind Feed %d: %q, want %q", name, i, got, s.want)
		}
		if p.Waits() != s.left {
			t.Errorf("P18.2: %s: %d wait behind Next %d, want %d", name, p.Waits(), i, s.left)
		}
	}
}

// hold asks what a text is, whole, byte by byte, and cut at each place (of a long one at some).
func hold(t *testing.T, text, want string, left int) {
	t.Helper()
	walk(t, fmt.Sprintf("%.60q whole", text), step{text, len(text), want, left})
	b := []byte(text)
	every := max(1, len(b)/80)
	for cut := 0; cut < len(b); cut += every {
		holdPieces(t, want, left, b[:cut], b[cut:])
	}
	holdPieces(t, want, left, slices.Collect(slices.Chunk(b, 1))...)
	holdPieces(t, want, left, slices.Collect(slices.Chunk(b, 3))...)
}

func holdPieces(t *testing.T, want string, left int, pieces ...[]byte) {
	t.Helper()
	p := New()
	var l []string
	for _, b := range pieces {
		p.Feed(b)
		l = append(l, told(t, p)...)
	}
	if got := strings.Join(l, "|"); got != want || p.Waits() != left {
		t.Errorf("P18.3: %.60q in %d pieces, the first of %d: %.300q and %d wait, want %.300q and %d", bytes.Join(pieces, nil), len(pieces), len(pieces[0]), got, p.Waits(), want, left)
	}
}

func TestNextExamples(t *testing.T) {
	hold(t, "get a\r\n", "geta", 0)
	hold(t, "set a 0 0 2\r\nhi\r\n", `seta"hi"`, 0)
	hold(t, "what\n", "ERROR", 0)
}

// Next tells a command with all of its fields.
func TestNextTellsAll(t *testing.T) {
	p := New()
	p.Feed([]byte("gats -7 b a\ncas k 1 -2 3 4 noreply\r\nabc\r\ndecr k 5 noreply\n"))
	for _, want := range []event.Command{
		{What: "get", Keys: []string{"b", "a"}, WithCas: true, WithTouch: true, Exp: -7},
		{What: "store", Verb: "cas", Keys: []string{"k"}, Data: "abc", Flags: 1, Exp: -2, Cas: 4, Quiet: true},
		{What: "arith", Keys: []string{"k"}, By: 5, Down: true, Quiet: true},
	} {
		if c, ok := p.Next(); !ok || shown(c) != shown(want) {
			t.Errorf("P18.2: %s, %v, want %s", shown(c), ok, shown(want))
		}
	}
}

func TestNextOfNothing(t *testing.T) {
	p := New()
	for range 3 {
		if l := told(t, p); len(l) != 0 || p.Waits() != 0 {
			t.Errorf("P18.2: a new parser: %q, %d", l, p.Waits())
		}
		p.Feed(nil)
		p.Feed([]byte{})
	}
	p.Feed([]byte("get"))
	for range 3 {
		if l := told(t, p); len(l) != 0 || p.Waits() != 3 {
			t.Errorf("P18.2: no whole line: %q, %d", l, p.Waits())
		}
		p.Feed(nil)
	}
	p.Feed([]byte(" a\n"))
	if l := told(t, p); !slices.Equal(l, []string{"geta"}) {
		t.Errorf("P18.2: %q", l)
	}
	for range 3 {
		if l := told(t, p); len(l) != 0 || p.Waits() != 0 {
			t.Errorf("P18.2: nothing is left: %q, %d", l, p.Waits())
		}
	}
}

// A line's end is a byte 10; one 13 ahead of it is no part of the line.
func TestNextLineEnds(t *testing.T) {
	hold(t, "quit\n", "quit", 0)
	hold(t, "quit\r\n", "quit", 0)
	hold(t, "quit\r\r\n", "ERROR", 0)
	hold(t, "get a\r\r\n", formatText, 0)
	hold(t, "\rquit\n", "ERROR", 0)
	hold(t, "qu\rit\n", "ERROR", 0)
	hold(t, "quit\r", "", 5)
	hold(t, "quit", "", 4)
	hold(t, "quit\rquit\n", "ERROR", 0)
	hold(t, "\n", "ERROR", 0)
	hold(t, "\r\n", "ERROR", 0)
	hold(t, "\r\r\n", "ERROR", 0)
	hold(t, "\n\n\r\n\n", "ERROR|ERROR|ERROR|ERROR", 0)
	hold(t, "\n\r", "ERROR", 1)
	hold(t, "quit\n\rquit\n", "quit|ERROR", 0)
	hold(t, "get a\r\nget b\nget c\r\nversion", "geta|getb|getc", 7)
}

// A line is any bytes.
func TestNextLinesOfAnyBytes(t *testing.T) {
	hold(t, "get \xff\nquit\n", formatText+"|quit", 0)
	hold(t, "get é\nget \xc3\nget \xa9\n", "geté|"+formatText+"|"+formatText, 0)
	hold(t, "\xff\xfe\n\xc3\n\xe2\x82\n\xf0\x9f\x98\nquit\n", "ERROR|ERROR|ERROR|ERROR|quit", 0)
	hold(t, "\x00\nget \x00\nquit\x00\nquit\n", "ERROR|"+formatText+"|ERROR|quit", 0)
	hold(t, "get \u010a\u0a0a\u2028\nquit\n", formatText+"|quit", 0) // runes with a 10 in their numbers
	hold(t, "get Ċ਀\nquit\n", "getĊ਀|quit", 0)
	for a := range 256 {
		text := "get k" + string([]byte{byte(a)}) + "l\r\n"
		p, q := New(), &plain{}
		p.Feed([]byte(text))
		q.feed(text)
		for range 3 {
			c, ok := p.Next()
			want, wantOK := q.next()
			if shown(c) != shown(want) || ok != wantOK {
				t.Errorf("P18.2: %q: %s, want %s", text, shown(c), shown(want))
			}
		}
	}
}

func xs(n int) string { return strings.Repeat("x", n) }

// full is a good line of n bytes.
func full(n int) string { return "get a" + strings.Repeat(" ", n-7) + " b" }

func TestNextLongestLines(t *testing.T) {
	hold(t, full(2047)+"\n", "geta+b", 0)
	hold(t, full(2048)+"\n", "geta+b", 0)
	hold(t, full(2048)+"\r\n", "geta+b", 0)
	hold(t, full(2047)+"\r\n", "geta+b", 0)
	hold(t, full(2049)+"\n", longText, 0)
	hold(t, full(2049)+"\r\n", longText, 0)
	hold(t, xs(2048)+"\nquit\n", "ERROR|quit", 0)
	hold(t, xs(2048)+"\r\nquit\n", "ERROR|quit", 0)
	hold(t, xs(2047)+"\r\r\nquit\n", "ERROR|quit", 0)
	hold(t, xs(2048)+"\r\r\nquit\n", longText+"|quit", 0)
	hold(t, xs(2046)+"\r\r\r\nquit\n", "ERROR|quit", 0)
	hold(t, xs(2047)+"\r\r\r\nquit\n", longText+"|quit", 0)
	hold(t, strings.Repeat("\r", 2049)+"\nquit\n", "ERROR|quit", 0)
	hold(t, strings.Repeat("\r", 2050)+"\nquit\n", longText+"|quit", 0)
	hold(t, "get "+strings.Repeat("é", 1022)+"\n", formatText, 0)              // 2048 bytes
	hold(t, "get "+strings.Repeat("é", 1022)+"x\nquit\n", longText+"|quit", 0) // it is bytes that are counted, not runes
}

// As long as a line may become one of at most MaxLine bytes it waits.
func TestNextLinesWithoutEnd(t *testing.T) {
	hold(t, xs(2048), "", 2048)
	hold(t, xs(2048)+"\r", "", 2049)
	hold(t, xs(2047)+"\r", "", 2048)
	hold(t, xs(2047)+"\r\r", "", 2049)
	hold(t, strings.Repeat("\r", 2049), "", 2049)
	hold(t, xs(2049), longText, 0)
	hold(t, xs(2048)+"\r\r", longText, 0)
	hold(t, xs(2048)+"\rx", longText, 0)
	hold(t, xs(2047)+"\rx", longText, 0)
	hold(t, strings.Repeat("\r", 2050), longText, 0)
	hold(t, xs(5000), longText, 0)
	hold(t, xs(5000)+"\nquit\n", longText+"|quit", 0)
	hold(t, xs(5000)+"\r\nquit\n", longText+"|quit", 0)
	hold(t, xs(5000)+"\n"+xs(5000)+"\nquit", longText+"|"+longText, 4)
}

// A long line byte by byte: it is told of once, at the byte that makes it too long, and what follows is
// passed over by the next Next.
func TestNextTooLongByteByByte(t *testing.T) {
	p := New()
	for i := 1; i <= 2048; i++ {
		p.Feed([]byte("x"))
		if c, ok := p.Next(); ok || p.Waits() != i {
			t.Fatalf("P18.2: behind %d bytes: %s, %d wait", i, shown(c), p.Waits())
		}
	}
	p.Feed([]byte("x"))
	if c, ok := p.Next(); !ok || brief(c) != longText || p.Waits() != 0 {
		t.Fatalf("P18.2: behind 2049 bytes: %s, %d wait", shown(c), p.Waits())
	}
	for range 20000 {
		p.Feed([]byte("get a"))
		if p.Waits() != 5 {
			t.Fatalf("P18.2: %d wait ahead of the Next that passes over", p.Waits())
		}
		if c, ok := p.Next(); ok || p.Waits() != 0 {
			t.Fatalf("P18.2: while passed over: %s, %d wait", shown(c), p.Waits())
		}
	}
	p.Feed([]byte("\nquit\n"))
	if c, ok := p.Next(); !ok || brief(c) != "quit" || p.Waits() != 0 {
		t.Fatalf("P18.2: behind the end of what is passed over: %s, %d wait", shown(c), p.Waits())
	}
}

// What had come of a line too long is used up at once with its Bad, up to its end.
func TestNextTooLongUsedUp(t *testing.T) {
	for _, x := range []struct {
		fed  string
		left int
	}{{xs(2049), 0}, {xs(9000), 0}, {xs(2049) + "\n", 0}, {xs(2049) + "\r\n", 0}, {xs(2048) + "\r\r\n", 0}, {xs(2049) + "\nquit\n", 5}, {xs(9000) + "\nget", 3}, {xs(2049) + "\n\n", 1}, {xs(2049) + "\n" + xs(2049), 2049}, {xs(2049) + "\r", 0}} {
		p := New()
		p.Feed([]byte(x.fed))
		if c, ok := p.Next(); !ok || brief(c) != longText || p.Waits() != x.left {
			t.Errorf("P18.2: of %d bytes: %s, %d wait, want %d", len(x.fed), shown(c), p.Waits(), x.left)
		}
	}
	walk(t, "a line that ends at once behind its Bad", step{xs(2049), 2049, longText, 0}, step{"\n", 1, "", 0}, step{"quit\n", 5, "quit", 0})
	walk(t, "its end in two", step{xs(2049), 2049, longText, 0}, step{"\r", 1, "", 0}, step{"\n", 1, "", 0}, step{"\nquit\n", 6, "ERROR|quit", 0})
	walk(t, "an end that had come", step{xs(2049) + "\n", 2050, longText, 0}, step{"\n", 1, "ERROR", 0})
	walk(t, "nothing comes", step{xs(2049), 2049, longText, 0}, step{"", 0, "", 0}, step{"", 0, "", 0}, step{xs(4000), 4000, "", 0}, step{"quit\nquit\n", 10, "quit", 0})
	walk(t, "two parts", step{xs(2000), 2000, "", 2000}, step{xs(2000), 4000, longText, 0}, step{"x\n", 2, "", 0}, step{xs(2048), 2048, "", 2048}, step{"\r", 2049, "", 2049}, step{"\n", 2050, "ERROR", 0})
}

func set(n int) string { return fmt.Sprintf("set a 0 0 %d\r\n", n) }

func TestNextData(t *testing.T) {
	for _, end := range []string{"\r\n", "\n"} {
		hold(t, set(0)+end, `seta""`, 0)
		hold(t, set(1)+"y"+end, `seta"y"`, 0)
		hold(t, set(2)+"hi"+end+"quit"+end, `seta"hi"|quit`, 0)
		hold(t, set(1024)+xs(1024)+end+"quit\n", `seta"xxx" of 1024|quit`, 0)
		hold(t, set(1023)+xs(1023)+end+"quit\n", `seta"xxx" of 1023|quit`, 0)
		hold(t, set(4)+"\r\n\r\n"+end+"quit\n", `seta"\r\n\r\n"|quit`, 0)
		hold(t, set(1)+"\n"+end, `seta"\n"`, 0)
		hold(t, set(1)+"\r"+end, `seta"\r"`, 0)
		hold(t, set(5)+"quit\n"+end+"version\n", `seta"quit\n"|version`, 0)
		hold(t, set(15)+"set b 0 0 1\r\nx\n"+end+"version\n", `seta"set b 0 0 1\r\nx\n"|version`, 0)
		hold(t, set(4)+"\x00\xff\xc3\xa9"+end, `seta"\x00\xffé"`, 0)
		hold(t, set(1)+"\xc3"+end+"get \xa9\n", `seta"\xc3"|`+formatText, 0)
		hold(t, set(0)+end+set(0)+end, `seta""|seta""`, 0)
	}
	for _, verb := range storing {
		hold(t, verb+" k 0 0 2 noreply\nhi\n", verb+`k"hi"`, 0)
	}
	hold(t, "cas k 0 0 2 9\nhi\n", `cask"hi"`, 0)
}

// Data waits till it has come, and till what ends it is known.
func TestNextDataWaits(t *testing.T) {
	hold(t, set(0), "", 0)
	hold(t, set(0)+"\r", "", 1)
	hold(t, set(2), "", 0)
	hold(t, set(2)+"h", "", 1)
	hold(t, set(2)+"hi", "", 2)
	hold(t, set(2)+"hi\r", "", 3)
	hold(t, set(2)+"\r\n", "", 2)
	hold(t, set(2)+"\r\n\r", "", 3)
	hold(t, set(1024)+xs(1024), "", 1024)
	hold(t, set(1024)+xs(1024)+"\r", "", 1025)
	walk(t, "step by step", step{"set a 0 0 2", 11, "", 11}, step{"\r", 12, "", 12}, step{"\n", 13, "", 0}, step{"", 0, "", 0}, step{"h", 1, "", 1}, step{"i", 2, "", 2}, step{"\r", 3, "", 3}, step{"", 3, "", 3}, step{"\nqu", 6, `seta"hi"`, 2}, step{"it\n", 5, "quit", 0})
	p := New()
	p.Feed([]byte(set(2) + "hi\r\nquit\n" + set(2) + "ho\nx"))
	for _, x := range []struct {
		want  string
		waits int
	}{{`seta"hi"`, 22}, {"quit", 17}, {`seta"ho"`, 1}} {
		if c, ok := p.Next(); !ok || brief(c) != x.want || p.Waits() != x.waits {
			t.Errorf("P18.2: %s, %d wait, want %s, %d", brief(c), p.Waits(), x.want, x.waits)
		}
	}
}

// Other bytes behind the data: all from there on is passed over, up to the next byte 10.
func TestNextBadChunk(t *testing.T) {
	hold(t, set(2)+"high\r\nquit\n", chunkText+"|quit", 0)
	hold(t, set(2)+"hi\rgh\nquit\n", chunkText+"|quit", 0)
	hold(t, set(2)+"hi\r\r\nquit\n", chunkText+"|quit", 0)
	hold(t, set(2)+"hi \r\nquit\n", chunkText+"|quit", 0)
	hold(t, set(2)+"hix", chunkText, 0)
	hold(t, set(2)+"hi\rx", chunkText, 0)
	hold(t, set(2)+"hi\r\r", chunkText, 0)
	hold(t, set(2)+"hi\x00\nquit\n", chunkText+"|quit", 0)
	hold(t, set(2)+"hi\xff\nquit\n", chunkText+"|quit", 0)
	hold(t, set(0)+"x\nquit\n", chunkText+"|quit", 0)
	hold(t, set(0)+"quit\nquit\n", chunkText+"|quit", 0)
	hold(t, set(0)+"\rquit\nquit\n", chunkText+"|quit", 0)
	hold(t, set(1)+"\r\nquit\n", `seta"\r"|quit`, 0)
	hold(t, set(2)+"x\r\nquit\n", `seta"x\r"|quit`, 0)
	hold(t, set(3)+"x\r\nquit\nget b\n", chunkText+"|getb", 0)
	hold(t, set(2)+"high"+xs(5000)+"\nquit\n", chunkText+"|quit", 0)
	hold(t, set(2)+"high\r\n\nquit\n", chunkText+"|ERROR|quit", 0)
	hold(t, set(2)+"high\n"+set(2)+"high\n"+set(2)+"hi\n", chunkText+"|"+chunkText+`|seta"hi"`, 0)
	hold(t, set(1024)+xs(1025)+"\nquit\n", chunkText+"|quit", 0)
	for a := range 256 {
		want := chunkText + "|quit"
		switch a {
		case '\n':
			want = `seta"hi"|ERROR|quit`
		case '\r':
			want = `seta"hi"|quit`
		}
		hold(t, set(2)+"hi"+string([]byte{byte(a)})+"\nquit\n", want, 0)
	}
}

// What is passed over waits till the Next behind the Bad.
func TestNextBadChunkPassedOver(t *testing.T) {
	p := New()
	p.Feed([]byte(set(2) + "high\r\nquit\n"))
	if c, ok := p.Next(); !ok || brief(c) != chunkText || p.Waits() != 9 {
		t.Fatalf("P18.2: %s, %d wait", brief(c), p.Waits())
	}
	if c, ok := p.Next(); !ok || brief(c) != "quit" || p.Waits() != 0 {
		t.Fatalf("P18.2: %s, %d wait", brief(c), p.Waits())
	}
	p.Feed([]byte(set(2) + "hi\rx"))
	if c, ok := p.Next(); !ok || brief(c) != chunkText || p.Waits() != 2 {
		t.Fatalf("P18.2: %s, %d wait", brief(c), p.Waits())
	}
	p.Feed([]byte("yz"))
	if p.Waits() != 4 {
		t.Fatalf("P18.2: %d wait", p.Waits())
	}
	for range 2 {
		if c, ok := p.Next(); ok || p.Waits() != 0 {
			t.Fatalf("P18.2: %s, %d wait", brief(c), p.Waits())
		}
	}
	walk(t, "goes on", step{set(2) + "hix", 16, chunkText, 0}, step{"quit", 4, "", 0}, step{"\r", 1, "", 0}, step{"\nqu", 3, "", 2}, step{"it\n", 5, "quit", 0})
	walk(t, "13 and another byte in two", step{set(2) + "hi\r", 16, "", 3}, step{"x", 4, chunkText, 0}, step{"\n", 1, "", 0}, step{"\n", 1, "ERROR", 0})
}

// Too large data comes whole, and is told of behind its end.
func TestNextTooLarge(t *testing.T) {
	for _, n := range []int{1025, 1026, 2000, 5000} {
		hold(t, set(n), "", 0)
		hold(t, set(n)+xs(n), "", n)
		hold(t, set(n)+xs(n-1), "", n-1)
		hold(t, set(n)+xs(n)+"\r", "", n+1)
		hold(t, set(n)+xs(n)+"\nquit\n", largeText+"|quit", 0)
		hold(t, set(n)+xs(n)+"\r\nquit\n", largeText+"|quit", 0)
		hold(t, set(n)+xs(n)+"z\nquit\n", chunkText+"|quit", 0)
		hold(t, set(n)+xs(n)+"\rz\nquit\n", chunkText+"|quit", 0)
		hold(t, set(n)+xs(n)+"\r\r\nquit\n", chunkText+"|quit", 0)
		hold(t, set(n)+strings.Repeat("\n", n)+"\nquit\n", largeText+"|quit", 0)
		hold(t, set(n)+strings.Repeat("quit\n", n)[:n]+"\r\nversion\n", largeText+"|version", 0)
		hold(t, "cas k 0 0 "+fmt.Sprint(n)+" 7 noreply\n"+xs(n)+"\nquit\n", largeText+"|quit", 0)
	}
	hold(t, "cas k 0 0 2000 x\n"+xs(2000)+"\nquit\n", formatText+"|ERROR|quit", 0) // no data is behind it
	hold(t, "set a 0 0 2147483647\n"+xs(3000), "", 3000)
	hold(t, "set a 0 0 2147483648\nquit\n", formatText+"|quit", 0)
	walk(t, "step by step", step{set(1025) + xs(1000), 1016, "", 1000}, step{xs(24), 1024, "", 1024}, step{"x", 1025, "", 1025}, step{"\r", 1026, "", 1026}, step{"", 1026, "", 1026}, step{"\nqu", 1029, largeText, 2}, step{"it\n", 5, "quit", 0})
	walk(t, "a bad end", step{set(1025) + xs(1025), 1041, "", 1025}, step{"\r", 1026, "", 1026}, step{"xy", 1028, chunkText, 0}, step{"z\nquit\n", 7, "quit", 0})
}

// Behind the Bad of a bad end what is passed over waits, of too large data too; and each Bad is told once.
func TestNextTooLargeWaits(t *testing.T) {
	p := New()
	p.Feed([]byte(set(1025) + xs(1030) + "\nquit\n"))
	for _, x := range []struct {
		want  string
		waits int
	}{{chunkText, 11}, {"quit", 0}} {
		if c, ok := p.Next(); !ok || brief(c) != x.want || p.Waits() != x.waits {
			t.Errorf("P18.2: %s, %d wait, want %s, %d", brief(c), p.Waits(), x.want, x.waits)
		}
	}
}

// Data that is told to no one is counted, but not kept.
func TestTooLargeDataIsNotKept(t *testing.T) {
	p := New()
	p.Feed([]byte("set a 0 0 2147483647\r\n"))
	part := bytes.Repeat([]byte("x"), 1000)
	for i := range 20000 {
		p.Feed(part)
		if c, ok := p.Next(); ok || p.Waits() != 1000*(i+1) {
			t.Fatalf("P18.2: %s, %d wait", brief(c), p.Waits())
		}
		if cap(p.fed.bytes) > 100000 {
			t.Fatalf("%d bytes are kept", cap(p.fed.bytes))
		}
	}
}

// What is used up is not kept.
func TestWhatIsUsedUpIsNotKept(t *testing.T) {
	p := New()
	p.Feed(bytes.Repeat([]byte("version\nset a 0 0 3\r\nabc\r\nset a 0 0 1\nlong\n"+xs(2100)+"\n"), 3000))
	for {
		if _, ok := p.Next(); !ok {
			break
		}
		if len(p.fed.bytes) > 2*p.Waits()+1 {
			t.Fatalf("%d bytes are kept, and %d wait", len(p.fed.bytes), p.Waits())
		}
	}
	if p.Waits() != 0 || cap(p.fed.bytes) > 64 {
		t.Fatalf("%d bytes are kept, and %d wait", cap(p.fed.bytes), p.Waits())
	}
}

// Very many commands that come at once, and byte by byte: each costs what its own bytes do.
func TestNextOfMuch(t *testing.T) {
	text := bytes.Repeat([]byte("version\nset a 0 0 3\r\nabc\r\nget b\r\nset a 0 0 1\nlong\n"), 200000)
	p := New()
	p.Feed(text)
	n := 0
	for ; ; n++ {
		if _, ok := p.Next(); !ok {
			break
		}
		p.Feed([]byte("x"))
	}
	if n != 800001 || p.Waits() != 0 { // all that was fed in between is the last line, and too long
		t.Errorf("P18.2: %d commands, %d wait", n, p.Waits())
	}
	p, n = New(), 0
	for i := range text[:5000000] {
		p.Feed(text[i : i+1])
		if _, ok := p.Next(); ok {
			n++
		}
	}
	if n != 400000 || p.Waits() != 0 {
		t.Errorf("P18.3: %d commands, %d wait", n, p.Waits())
	}
}

// R4: what was fed is not changed, nor kept: it may be changed, its spare room too.
func TestFeedIsNotKept(t *testing.T) {
	for _, text := range []string{"get aaa bbb\n", set(3) + "abc\r\n", "quit\n", xs(2049) + "\n"} {
		for cut := range len(text) {
			p := New()
			for _, piece := range []string{text[:cut], text[cut:]} {
				b := append(make([]byte, 0, 4000), piece...)
				ahead := bytes.Clone(b[:cap(b)])
				p.Feed(b)
				if !bytes.Equal(b[:cap(b)], ahead) {
					t.Fatalf("R4: Feed of %.40q changed it", piece)
				}
				for i := range b[:cap(b)] {
					b[:cap(b)][i] = 'z'
				}
			}
			q := &plain{}
			q.feed(text)
			want, _ := q.next()
			if c, ok := p.Next(); !ok || shown(c) != shown(want) {
				t.Fatalf("R4: of %.40q cut at %d a change is seen: %s", text, cut, shown(c))
			}
		}
	}
}

// R4: what Next told is neither changed by what comes, nor seen by the parser when it is changed.
func TestToldIsNotKept(t *testing.T) {
	p := New()
	var l []event.Command
	var want []string
	for i := range 200 {
		p.Feed([]byte(fmt.Sprintf("get k%d l m\nset k%d 0 0 3\nd%02d\nincr n%d 1\n%s", i, i, i%100, i, xs(i%7))))
		p.Feed([]byte("\n"))
		for {
			c, ok := p.Next()
			if !ok {
				break
			}
			l, want = append(l, c), append(want, shown(c))
			other := c
			other.Keys = slices.Clone(c.Keys)
			l[len(l)-1] = other
			for j := range c.Keys[:cap(c.Keys)] {
				c.Keys[:cap(c.Keys)][j] = "spoilt"
			}
		}
	}
	for i, c := range l {
		if shown(c) != want[i] {
			t.Fatalf("R4: what was told became %s, was %s", shown(c), want[i])
		}
	}
	q := &plain{}
	for i := range 200 {
		q.feed(fmt.Sprintf("get k%d l m\nset k%d 0 0 3\nd%02d\nincr n%d 1\n%s\n", i, i, i%100, i, xs(i%7)))
	}
	for i := range want {
		if c, ok := q.next(); !ok || shown(c) != want[i] {
			t.Fatalf("R4: command %d was %s, want %s", i, want[i], shown(c))
		}
	}
}

// A key list that was told while its data was awaited is the Store's alone.
func TestStoresKeysAreTheirOwn(t *testing.T) {
	p := New()
	p.Feed([]byte(set(1) + "x\n" + set(1) + "y\n"))
	c, _ := p.Next()
	c.Keys[0] = "spoilt"
	if d, ok := p.Next(); !ok || brief(d) != `seta"y"` {
		t.Errorf("R4: %s", brief(d))
	}
}

func TestTwoParsers(t *testing.T) {
	p, q := New(), New()
	p.Feed([]byte(set(3) + "a"))
	q.Feed([]byte("get "))
	if len(told(t, p)) != 0 || len(told(t, q)) != 0 || p.Waits() != 1 || q.Waits() != 4 {
		t.Errorf("P18.2: %d and %d wait", p.Waits(), q.Waits())
	}
	p.Feed([]byte("bc\n"))
	if l := told(t, p); !slices.Equal(l, []string{`seta"abc"`}) || q.Waits() != 4 {
		t.Errorf("P18.2: %q, %d", l, q.Waits())
	}
	p.Feed([]byte(xs(2049)))
	told(t, p)
	q.Feed([]byte("b\n"))
	if l := told(t, q); !slices.Equal(l, []string{"getb"}) {
		t.Errorf("P18.2: %q", l)
	}
}
