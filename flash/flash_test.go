package flash

import (
	"bytes"
	"fmt"
	"math"
	"slices"
	"strings"
	"testing"

	"cellaret/api"
)

func device(t *testing.T, pages int) *Dev {
	t.Helper()
	d, e := New(pages)
	if e != api.OK || d == nil {
		t.Fatalf("P3.1: New(%d): %v, %d", pages, d, e)
	}
	return d
}

// want holds what a call answered against what the document asks.
func want(t *testing.T, promise, what string, got, asked any) {
	t.Helper()
	if g, a := bare(got), bare(asked); g != a {
		t.Errorf("%s: %s: %s, want %s", promise, what, g, a)
	}
}

// bare tells a value, errors by their numbers alone.
func bare(v any) string { return strings.ReplaceAll(fmt.Sprint(v), "error ", "") }

// full makes a page's bytes: what was written, and noughts up to the page's end.
func full(b ...byte) []byte {
	return append(slices.Clone(b), make([]byte, api.PageSize-len(b))...)
}

// stands holds a page against bytes, or against an error with no bytes.
func stands(t *testing.T, promise, what string, d *Dev, at int, b []byte, e api.Errno) {
	t.Helper()
	got, err := d.Read(at)
	if err != e || !bytes.Equal(got, b) {
		t.Errorf("%s: %s: Read(%d): %v, %d, want %v, %d", promise, what, at, got, err, b, e)
	}
}

func TestExamples(t *testing.T) {
	d := device(t, 2)
	d.Write(0, []byte{7})
	d.Flush()
	d.Write(0, []byte{8})
	stands(t, "P3.1", "example", d, 0, full(8), api.OK)
	d.Crash([]byte{2})
	stands(t, "P3.2", "example", d, 0, nil, api.EOFF)
	d.On()
	stands(t, "P3.2", "example", d, 0, nil, api.ETORN)
	stands(t, "P3.1", "example", d, 1, nil, api.ENONE)
}

func TestNew(t *testing.T) {
	for _, n := range []int{1, 2, api.MaxPages - 1, api.MaxPages} {
		d := device(t, n)
		want(t, "P3.1", "a new device", fmt.Sprint(d.Pages(), d.Power(), d.Waiting(), d.Losses(), d.Stat()), fmt.Sprint(n, true, []int{}, 0, Stat{}))
		for at := range n {
			stands(t, "P3.1", "a new device", d, at, nil, api.ENONE)
		}
	}
	for _, n := range []int{0, -1, api.MaxPages + 1, math.MinInt, math.MaxInt} {
		d, e := New(n)
		if d != nil || e != api.EARG {
			t.Errorf("P3.1: New(%d): %v, %d, want nil, EARG", n, d, e)
		}
	}
}

func TestPagesAtTheEdges(t *testing.T) {
	for _, n := range []int{1, 3, api.MaxPages} {
		d := device(t, n)
		for _, at := range []int{-1, n, n + 1, math.MinInt, math.MaxInt} {
			b, e := d.Read(at)
			if b != nil {
				t.Errorf("R2: Read(%d): %v beside an error", at, b)
			}
			got := []api.Errno{d.Write(at, []byte{1}), d.Write(at, nil), d.Erase(at), e}
			want(t, "P3.1", fmt.Sprintf("page %d of %d", at, n), got, []api.Errno{1, 1, 1, 1})
		}
		want(t, "R3", "refused calls", fmt.Sprint(d.Waiting(), d.Stat()), fmt.Sprint([]int{}, Stat{}))
		for _, at := range []int{0, n - 1} {
			want(t, "P3.1", "Write at an edge", d.Write(at, []byte{1}), api.OK)
			stands(t, "P3.1", "Write at an edge", d, at, full(1), api.OK)
			want(t, "P3.1", "Erase at an edge", d.Erase(at), api.OK)
			stands(t, "P3.1", "Erase at an edge", d, at, nil, api.ENONE)
		}
	}
}

func TestWriteLengths(t *testing.T) {
	all := make([]byte, api.PageSize+1)
	for i := range all {
		all[i] = byte(i*7 + 1)
	}
	d := device(t, 2)
	for n := range api.PageSize + 1 {
		// Upon a page that is full, so that what stood there ahead of it would be seen.
		d.Write(1, all[:api.PageSize])
		want(t, "P3.1", fmt.Sprintf("Write of %d bytes", n), d.Write(1, all[:n]), api.OK)
		stands(t, "P3.1", fmt.Sprintf("Write of %d bytes", n), d, 1, full(all[:n]...), api.OK)
	}
	stands(t, "P3.1", "the other page", d, 0, nil, api.ENONE)
	d.Write(1, nil)
	stands(t, "P3.1", "no bytes", d, 1, full(), api.OK)
	for _, n := range []int{api.PageSize + 1, 2 * api.PageSize} {
		want(t, "P3.1", fmt.Sprintf("Write of %d bytes", n), d.Write(0, make([]byte, n)), api.EARG)
	}
	stands(t, "R3", "a refused Write", d, 0, nil, api.ENONE)
	want(t, "R3", "a refused Write", d.Waiting(), []int{1})
}

func TestListsAreNotKept(t *testing.T) {
	d := device(t, 2)
	room := []byte{1, 2, 3, 4, 5}
	d.Write(0, room[:2])
	want(t, "R4", "what was handed to Write", room, []byte{1, 2, 3, 4, 5})
	for i := range room {
		room[i] = 9
	}
	stands(t, "R4", "the list handed to Write was changed", d, 0, full(1, 2), api.OK)
	d.Flush()
	stands(t, "R4", "the list handed to Write was changed", d, 0, full(1, 2), api.OK)
	a, _ := d.Read(0)
	b, _ := d.Read(0)
	a = a[:cap(a)]
	for i := range a {
		a[i] = 8
	}
	want(t, "R4", "two answers of Read", b, full(1, 2))
	stands(t, "R4", "the answer of Read was changed", d, 0, full(1, 2), api.OK)
	d.Write(0, []byte{3})
	want(t, "R4", "an answer of Read, behind a Write", b, full(1, 2))
	d.Write(1, nil)
	w, v := d.Waiting(), d.Waiting()
	want(t, "P3.2", "Waiting", w, []int{0, 1})
	w = w[:cap(w)]
	for i := range w {
		w[i] = 7
	}
	want(t, "R4", "two answers of Waiting", v, []int{0, 1})
	want(t, "R4", "the answer of Waiting was changed", d.Waiting(), []int{0, 1})
	picks := []byte{1, 2, 2}
	d.Crash(picks[:1])
	want(t, "R4", "what was handed to Crash", picks, []byte{1, 2, 2})
	d.On()
	stands(t, "P3.2", "a pick behind the end of picks", d, 1, nil, api.ENONE)
}

func TestReadByKindAndPower(t *testing.T) {
	made := func() *Dev {
		d := device(t, 4)
		d.Write(2, nil)
		d.Crash([]byte{2})
		d.On()
		d.Write(1, []byte{5})
		d.Flush()
		d.Write(3, []byte{6})
		return d
	}
	for name, off := range map[string]func(*Dev){"Crash": func(d *Dev) { d.Crash([]byte{1}) }, "Arm": func(d *Dev) { d.Arm(1); d.Flush() }} {
		d := made()
		stands(t, "P3.1", "blank", d, 0, nil, api.ENONE)
		stands(t, "P3.1", "whole", d, 1, full(5), api.OK)
		stands(t, "P3.1", "torn", d, 2, nil, api.ETORN)
		stands(t, "P3.1", "what waits", d, 3, full(6), api.OK)
		off(d)
		reads := d.Stat().Reads
		for at := range 4 {
			stands(t, "P3.1", "off by "+name, d, at, nil, api.EOFF)
		}
		for _, at := range []int{-1, 4} {
			stands(t, "R6", "EARG ahead of EOFF", d, at, nil, api.EARG)
			want(t, "R6", "EARG ahead of EOFF", fmt.Sprint(d.Write(at, nil), d.Erase(at)), "1 1")
		}
		want(t, "R6", "EARG ahead of EOFF", d.Write(0, make([]byte, api.PageSize+1)), api.EARG)
		want(t, "P3.1", "off by "+name, fmt.Sprint(d.Write(0, []byte{1}), d.Erase(1), d.Flush(), d.Power()), "4 4 4 false")
		want(t, "P3.2", "Reads that were EOFF or EARG", d.Stat().Reads, reads)
		d.On()
		stands(t, "P3.1", "blank, and on again", d, 0, nil, api.ENONE)
		stands(t, "P3.1", "whole, and on again", d, 1, full(5), api.OK)
		stands(t, "P3.1", "torn, and on again", d, 2, nil, api.ETORN)
	}
}

func TestTornIsWrittenAgain(t *testing.T) {
	d := device(t, 3)
	for at := range 3 {
		d.Write(at, []byte{1})
	}
	d.Crash([]byte{2, 2, 2})
	d.On()
	d.Write(0, []byte{9})
	d.Erase(1)
	d.Write(2, []byte{9})
	stands(t, "P3.1", "torn, and written", d, 0, full(9), api.OK)
	stands(t, "P3.1", "torn, and erased", d, 1, nil, api.ENONE)
	want(t, "P3.2", "they wait", d.Waiting(), []int{0, 1, 2})
	d.Crash([]byte{1, 1})
	d.On()
	stands(t, "P3.2", "what was written last", d, 0, full(9), api.OK)
	stands(t, "P3.2", "what was written last: blank", d, 1, nil, api.ENONE)
	stands(t, "P3.2", "what it was: torn", d, 2, nil, api.ETORN)
}

func TestArm(t *testing.T) {
	// Each call by name; w, e and f count for Arm, the others don't.
	calls := map[rune]func(d *Dev) api.Errno{
		'w': func(d *Dev) api.Errno { return d.Write(0, []byte{1}) },
		'e': func(d *Dev) api.Errno { return d.Erase(1) },
		'f': func(d *Dev) api.Errno { return d.Flush() },
		'r': func(d *Dev) api.Errno { _, e := d.Read(0); return e },
		'x': func(d *Dev) api.Errno { return d.Write(2, nil) },
		'y': func(d *Dev) api.Errno { return d.Erase(-1) },
		'z': func(d *Dev) api.Errno { return d.Write(0, make([]byte, api.PageSize+1)) },
		'q': func(d *Dev) api.Errno {
			d.Waiting()
			d.Stat()
			d.Pages()
			d.Power()
			d.Losses()
			d.Copy().Flush()
			return api.OK
		},
	}
	for _, c := range []struct {
		n    int
		run  string
		errs string
	}{
		{1, "wwef", "4444"}, {1, "e", "4"}, {1, "f", "4"}, {2, "ww", "04"}, {2, "we", "04"}, {2, "ef", "04"}, {2, "fw", "04"},
		{1, "xyzw", "1114"}, {2, "xwyezf", "101414"}, {3, "wrfrrw", "000004"}, {3, "wqqfqe", "000004"}, {3, "rxryf", "51510"},
		{0, "wwff", "0000"}, {-1, "wef", "000"}, {math.MinInt, "wef", "000"}, {math.MaxInt, "wef", "000"}, {1, "wr", "44"}, {1, "wxyz", "4111"},
	} {
		d := device(t, 2)
		d.Arm(c.n)
		got := ""
		for _, r := range c.run {
			got += fmt.Sprint(int(calls[r](d)))
		}
		want(t, "P3.2", fmt.Sprintf("Arm(%d), %s", c.n, c.run), got, c.errs)
		off := 0
		for i, r := range c.run {
			if c.errs[i] == '4' && r != 'r' {
				off = 1
			}
		}
		want(t, "P3.2", fmt.Sprintf("Arm(%d), %s: Power, Losses", c.n, c.run), fmt.Sprint(d.Power(), d.Losses()), fmt.Sprint(off == 0, off))
	}
}

func TestArmAnewAndBehindOn(t *testing.T) {
	d := device(t, 2)
	d.Arm(1)
	d.Arm(3)
	want(t, "P3.2", "armed anew with more", fmt.Sprint(d.Flush(), d.Flush(), d.Flush()), "0 0 4")
	d.On()
	d.Arm(9)
	d.Flush()
	d.Arm(2)
	want(t, "P3.2", "armed anew with less", fmt.Sprint(d.Flush(), d.Flush()), "0 4")
	d.On()
	for _, n := range []int{0, -1, math.MinInt} {
		d.Arm(1)
		d.Arm(n)
		want(t, "P3.2", "disarmed", fmt.Sprint(d.Flush(), d.Flush(), d.Power()), "0 0 true")
	}
	d.Arm(2)
	d.On()
	want(t, "P3.2", "On disarms", fmt.Sprint(d.Flush(), d.Flush(), d.Flush(), d.Power()), "0 0 0 true")
	d.Crash(nil)
	d.Arm(1)
	losses := d.Losses()
	want(t, "P3.2", "armed while it is off", fmt.Sprint(d.Write(0, nil), d.Flush(), d.Losses()-losses), "4 4 0")
	d.On()
	d.Arm(1)
	d.Crash(nil)
	losses = d.Losses()
	want(t, "P3.2", "armed ahead of Crash", fmt.Sprint(d.Write(0, nil), d.Flush(), d.Losses()-losses), "4 4 0")
	d.On()
	want(t, "P3.2", "On disarms what was armed while it was off", fmt.Sprint(d.Flush(), d.Power()), "0 true")
}

func TestArmedCallDoesNothing(t *testing.T) {
	made := func() *Dev {
		d := device(t, 4)
		d.Write(0, []byte{1})
		d.Write(1, []byte{2})
		d.Flush()
		d.Write(1, []byte{3})
		d.Arm(1)
		return d
	}
	for name, call := range map[string]func(d *Dev) api.Errno{
		"Write of a page that doesn't wait": func(d *Dev) api.Errno { return d.Write(0, []byte{9}) },
		"Write of a page that waits":        func(d *Dev) api.Errno { return d.Write(1, []byte{9}) },
		"Erase of a page that doesn't wait": func(d *Dev) api.Errno { return d.Erase(0) },
		"Erase of a page that waits":        func(d *Dev) api.Errno { return d.Erase(1) },
		"Flush":                             func(d *Dev) api.Errno { return d.Flush() },
	} {
		d := made()
		stat := d.Stat()
		want(t, "P3.2", name, call(d), api.EOFF)
		want(t, "P3.2", name+": what waits, Stat", fmt.Sprint(d.Waiting(), d.Stat()), fmt.Sprint([]int{1}, stat))
		c := d.Copy()
		d.Crash([]byte{1, 1})
		d.On()
		stands(t, "P3.2", name, d, 0, full(1), api.OK)
		stands(t, "P3.2", name, d, 1, full(3), api.OK)
		c.On()
		stands(t, "P3.2", name, c, 0, full(1), api.OK)
		stands(t, "P3.2", name, c, 1, full(2), api.OK)
	}
}

func TestCrashByPicks(t *testing.T) {
	for _, picks := range [][]byte{nil, {}, {0}, {1}, {2}, {1, 2}, {0, 1, 2}, {2, 0, 1}, {1, 1, 1}, {2, 2, 2}, {3, 4, 5}, {255, 254, 253}, {6, 7, 8, 1, 1}, {0, 0, 0, 2, 2, 2}, {128, 129, 127}} {
		d := device(t, 6)
		d.Write(1, []byte{11})
		d.Write(5, []byte{15})
		d.Write(0, []byte{10})
		d.Flush()
		d.Erase(5) // waits third, though it is written first
		d.Write(3, []byte{23})
		d.Write(1, []byte{20})
		d.Write(1, []byte{21})
		want(t, "P3.2", "Waiting is rising", d.Waiting(), []int{1, 3, 5})
		d.Crash(picks)
		want(t, "P3.2", "behind Crash: Power, Waiting", fmt.Sprint(d.Power(), d.Waiting()), "false []")
		d.On()
		was := []struct {
			b []byte
			e api.Errno
		}{{full(11), 0}, {nil, api.ENONE}, {full(15), 0}}
		last := []struct {
			b []byte
			e api.Errno
		}{{full(21), 0}, {full(23), 0}, {nil, api.ENONE}}
		for k, at := range []int{1, 3, 5} {
			r := was[k]
			if k < len(picks) && picks[k]%3 == 1 {
				r = last[k]
			} else if k < len(picks) && picks[k]%3 == 2 {
				r.b, r.e = nil, api.ETORN
			}
			stands(t, "P3.2", fmt.Sprintf("Crash(%v)", picks), d, at, r.b, r.e)
		}
		stands(t, "P3.3", fmt.Sprintf("Crash(%v)", picks), d, 0, full(10), api.OK)
		stands(t, "P3.2", fmt.Sprintf("Crash(%v)", picks), d, 2, nil, api.ENONE)
	}
}

func TestCrashUponCrash(t *testing.T) {
	d := device(t, 3)
	d.Write(0, []byte{1})
	d.Write(1, []byte{2})
	d.Write(2, []byte{3})
	d.Crash([]byte{1, 2, 0})
	d.Crash([]byte{2, 1, 1})
	d.Crash(nil)
	want(t, "P3.2", "three Crashes: Losses, Crashes, Waiting", fmt.Sprint(d.Losses(), d.Stat().Crashes, d.Waiting()), "3 3 []")
	d.On()
	stands(t, "P3.2", "Crash upon Crash", d, 0, full(1), api.OK)
	stands(t, "P3.2", "Crash upon Crash", d, 1, nil, api.ETORN)
	stands(t, "P3.2", "Crash upon Crash", d, 2, nil, api.ENONE)
	d.Crash([]byte{2, 2, 2})
	d.On()
	stands(t, "P3.3", "Crash with nothing that waits", d, 0, full(1), api.OK)
}

func TestOn(t *testing.T) {
	d := device(t, 3)
	d.Write(0, []byte{1})
	d.Flush()
	d.Write(0, []byte{2})
	d.Erase(0)
	d.Write(2, []byte{3})
	d.On()
	want(t, "P3.2", "On while it is on", fmt.Sprint(d.Power(), d.Losses(), d.Waiting(), d.Stat().Crashes), "true 1 [] 0")
	stands(t, "P3.2", "On throws away what waits", d, 0, full(1), api.OK)
	stands(t, "P3.2", "On throws away what waits", d, 2, nil, api.ENONE)
	d.Write(0, []byte{4})
	d.Arm(1)
	d.Flush()
	want(t, "P3.2", "off by Arm: what waits goes on waiting", d.Waiting(), []int{0})
	d.On()
	stands(t, "P3.2", "On behind Arm", d, 0, full(1), api.OK)
	want(t, "P3.2", "Losses: On, Arm, On", d.Losses(), 3)
}

func TestWrittenTwice(t *testing.T) {
	for pick, b := range map[byte][]byte{0: full(1), 1: full(3)} {
		d := device(t, 1)
		d.Write(0, []byte{1})
		d.Flush()
		d.Write(0, []byte{2})
		d.Write(0, []byte{3})
		want(t, "P3.2", "a page that was written twice waits once", d.Waiting(), []int{0})
		d.Crash([]byte{pick})
		d.On()
		stands(t, "P3.2", fmt.Sprintf("written twice, pick %d", pick), d, 0, b, api.OK)
	}
	d := device(t, 1)
	d.Write(0, []byte{1})
	d.Write(0, []byte{2})
	d.Flush()
	want(t, "P3.1", "behind Flush nothing waits", d.Waiting(), []int{})
	d.Write(0, []byte{3})
	want(t, "P3.1", "written again behind Flush", d.Waiting(), []int{0})
	d.On()
	stands(t, "P3.2", "written again behind Flush", d, 0, full(2), api.OK)
	// The same bytes once more wait as well: a crash may tear them.
	d.Write(0, []byte{2})
	d.Crash([]byte{2})
	d.On()
	stands(t, "P3.2", "written with the same bytes", d, 0, nil, api.ETORN)
}

func TestStat(t *testing.T) {
	d := device(t, 3)
	step := func(what string, w, f, r, c int) {
		t.Helper()
		want(t, "P3.2", "Stat: "+what, d.Stat(), Stat{w, f, r, c})
	}
	d.Write(0, nil)
	d.Write(0, []byte{1})
	step("Writes", 2, 0, 0, 0)
	d.Erase(0)
	d.Erase(1)
	step("Erases", 4, 0, 0, 0)
	d.Write(3, nil)
	d.Write(0, make([]byte, api.PageSize+1))
	d.Erase(-1)
	d.Read(3)
	step("EARG", 4, 0, 0, 0)
	d.Flush()
	d.Flush()
	step("Flushes", 4, 2, 0, 0)
	d.Write(2, nil)
	d.Read(0)
	d.Read(2)
	step("Reads", 5, 2, 2, 0)
	d.Crash([]byte{2})
	step("Crash", 5, 2, 2, 1)
	d.Write(0, nil)
	d.Erase(0)
	d.Flush()
	d.Read(0)
	step("EOFF", 5, 2, 2, 1)
	d.On()
	step("On", 5, 2, 2, 1)
	d.Read(2)
	step("Read of a torn page", 5, 2, 3, 1)
	d.Arm(1)
	d.Write(0, nil)
	step("Arm", 5, 2, 3, 1)
	d.Crash(nil)
	step("Crash while it is off", 5, 2, 3, 2)
}

func TestLosses(t *testing.T) {
	d := device(t, 1)
	step := func(what string, n int) {
		t.Helper()
		want(t, "P3.2", "Losses: "+what, d.Losses(), n)
	}
	d.Write(0, nil)
	d.Read(0)
	d.Flush()
	d.Write(1, nil)
	d.Waiting()
	step("calls that are done", 0)
	d.Arm(1)
	step("Arm itself", 0)
	d.Erase(5)
	d.Read(0)
	step("calls that don't count for Arm", 0)
	d.Erase(0)
	step("the call that finds it gone", 1)
	d.Erase(0)
	d.Write(0, nil)
	d.Flush()
	d.Read(0)
	step("calls that find it off", 1)
	d.Crash(nil)
	step("Crash while it is off", 2)
	d.On()
	step("On", 3)
	d.On()
	step("On while it is on", 4)
	d.Crash(nil)
	step("Crash", 5)
}

func TestCopy(t *testing.T) {
	d := device(t, 4)
	d.Write(0, []byte{1})
	d.Write(1, []byte{2})
	d.Flush()
	d.Write(1, []byte{3})
	d.Write(3, []byte{4})
	d.Arm(3)
	d.Flush()
	d.Write(1, []byte{5})
	c := d.Copy()
	want(t, "P3.2", "Copy", told(c), told(d))
	d.Arm(0)
	d.Erase(0)
	d.Write(2, []byte{7})
	want(t, "P3.2", "a Copy, its device changed", c.Waiting(), []int{1})
	stands(t, "P3.2", "a Copy, its device changed", c, 0, full(1), api.OK)
	stands(t, "P3.2", "a Copy, its device changed", c, 2, nil, api.ENONE)
	want(t, "P3.2", "a Copy is armed like its device", c.Write(0, []byte{9}), api.EOFF)
	want(t, "P3.2", "the device of a Copy that crashed", fmt.Sprint(d.Power(), d.Losses(), d.Waiting()), "true 0 [0 1 2]")
	c.Crash([]byte{2})
	c.On()
	c.Erase(3)
	stands(t, "P3.2", "the device of a Copy that crashed", d, 1, full(5), api.OK)
	stands(t, "P3.2", "the device of a Copy that crashed", d, 3, full(4), api.OK)
	d.On()
	stands(t, "P3.2", "the device keeps what its pages were", d, 1, full(3), api.OK)
	stands(t, "P3.2", "the Copy keeps its own", c, 1, nil, api.ETORN)
	off := device(t, 1)
	off.Crash(nil)
	want(t, "P3.2", "a Copy of a device that is off", fmt.Sprint(off.Copy().Power(), off.Copy().Losses()), "false 1")
}

// TestCopyInTheMiddle looks for memory that two devices share while pages wait.
func TestCopyInTheMiddle(t *testing.T) {
	d := device(t, 8)
	for at := range 5 {
		d.Write(at, []byte{byte(at)})
	}
	c := d.Copy()
	d.Write(5, []byte{50})
	c.Write(6, []byte{60})
	d.Write(7, []byte{70})
	want(t, "P3.2", "both go on waiting for themselves", fmt.Sprint(d.Waiting(), c.Waiting()), "[0 1 2 3 4 5 7] [0 1 2 3 4 6]")
	c.Crash([]byte{1, 1, 1, 1, 1, 2})
	d.Crash([]byte{1, 1, 1, 1, 1, 1, 1})
	c.On()
	d.On()
	stands(t, "P3.2", "device", d, 5, full(50), api.OK)
	stands(t, "P3.2", "device", d, 6, nil, api.ENONE)
	stands(t, "P3.2", "Copy", c, 5, nil, api.ENONE)
	stands(t, "P3.2", "Copy", c, 6, nil, api.ETORN)
}

// told is all that a device tells; its pages are read by way of a Copy, so that no Read is counted.
func told(d *Dev) string {
	s := fmt.Sprint(d.Pages(), d.Power(), d.Waiting(), d.Losses(), d.Stat())
	for at := range d.Pages() {
		b, e := d.Copy().Read(at)
		s += fmt.Sprint(" ", bytes.TrimRight(b, "\x00"), e)
	}
	return s
}

// numbers gives the same numbers in each run: no test hangs on chance.
type numbers uint64

func (n *numbers) below(limit int) int {
	*n = *n*6364136223846793005 + 1442695040888963407
	return int(uint64(*n)>>33) % limit
}

// entry is one change of a page in plain's book: what it became, and whether that was settled.
type entry struct {
	is      string // "blank", "torn", or the bytes
	settled bool
}

// plain is a device by the chapter's words alone: it keeps the whole story of each page.
type plain struct {
	story         [][]entry
	armed, losses int
	on            bool
	stat          Stat
}

func (p *plain) last(at int) entry { return p.story[at][len(p.story[at])-1] }

func (p *plain) waiting() []int {
	l := []int{}
	for at := range p.story {
		if !p.last(at).settled {
			l = append(l, at)
		}
	}
	return l
}

func (p *plain) finds() bool {
	if p.on && p.armed == 1 {
		p.on = false
		p.losses++
	}
	if p.armed > 0 {
		p.armed--
	}
	return p.on
}

func (p *plain) change(at int, is string) api.Errno {
	if at < 0 || at >= len(p.story) || len(is) > api.PageSize {
		return api.EARG
	}
	if !p.finds() {
		return api.EOFF
	}
	p.story[at] = append(p.story[at], entry{is, false})
	p.stat.Writes++
	return api.OK
}

func (p *plain) flush() api.Errno {
	if !p.finds() {
		return api.EOFF
	}
	for _, at := range p.waiting() {
		p.story[at] = append(p.story[at], entry{p.last(at).is, true})
	}
	p.stat.Flushes++
	return api.OK
}

func (p *plain) read(at int) (string, api.Errno) {
	switch {
	case at < 0 || at >= len(p.story):
		return "", api.EARG
	case !p.on:
		return "", api.EOFF
	}
	p.stat.Reads++
	switch is := p.last(at).is; is {
	case "blank":
		return "", api.ENONE
	case "torn":
		return "", api.ETORN
	default:
		return is + string(make([]byte, api.PageSize-len(is))), api.OK
	}
}

func (p *plain) lose(picks []byte) {
	for k, at := range p.waiting() {
		is := p.last(at).is
		switch {
		case k < len(picks) && picks[k]%3 == 2:
			is = "torn"
		case k >= len(picks) || picks[k]%3 == 0:
			for _, e := range p.story[at] {
				if e.settled {
					is = e.is
				}
			}
		}
		p.story[at] = append(p.story[at], entry{is, true})
	}
	p.losses++
}

func newPlain(pages int) *plain {
	p := &plain{on: true}
	for range pages {
		p.story = append(p.story, []entry{{"blank", true}})
	}
	return p
}

// TestAgainstPlain lets long runs of calls be answered by the device and by plain.
func TestAgainstPlain(t *testing.T) {
	for seed := range 60 {
		n := numbers(seed)
		pages := 1 + n.below(7)
		d, p := device(t, pages), newPlain(pages)
		for i := range 400 {
			got, asked := step(&n, d, p)
			s := fmt.Sprint(got, d.Power(), d.Losses(), d.Waiting(), d.Stat())
			a := fmt.Sprint(asked, p.on, p.losses, p.waiting(), p.stat)
			if s != a {
				t.Fatalf("P3.1, P3.2: run %d, call %d: %s, want %s", seed, i, s, a)
			}
		}
	}
}

// step does one call on both, and tells what each answered.
func step(n *numbers, d *Dev, p *plain) (string, string) {
	at := n.below(len(p.story)+2) - 1
	b := bytes.Repeat([]byte{byte(n.below(255) + 1)}, []int{0, 1, 3, api.PageSize, api.PageSize + 1}[n.below(5)])
	picks := make([]byte, n.below(len(p.story)+2))
	for i := range picks {
		picks[i] = byte(n.below(256))
	}
	switch k := n.below(40); {
	case k < 14:
		return fmt.Sprint("write", d.Write(at, b)), fmt.Sprint("write", p.change(at, string(b)))
	case k < 20:
		return fmt.Sprint("erase", d.Erase(at)), fmt.Sprint("erase", p.change(at, "blank"))
	case k < 24:
		return fmt.Sprint("flush", d.Flush()), fmt.Sprint("flush", p.flush())
	case k < 34:
		got, e := d.Read(at)
		asked, f := p.read(at)
		return fmt.Sprint("read", string(got), e), fmt.Sprint("read", asked, f)
	case k < 36:
		arm := n.below(6) - 1
		d.Arm(arm)
		p.armed = max(arm, 0)
	case k < 37:
		d.Crash(picks)
		p.lose(picks)
		p.on = false
		p.stat.Crashes++
	default:
		d.On()
		p.lose(nil)
		p.on, p.armed = true, 0
	}
	return "", ""
}

// TestFlushedStays looks at P3.3: whatever comes to the other pages and to the power.
func TestFlushedStays(t *testing.T) {
	for seed := range 40 {
		n := numbers(seed)
		d := device(t, 5)
		d.Write(1, []byte{1, 2, 3})
		d.Write(3, []byte{9})
		d.Flush()
		d.Erase(3)
		d.Flush()
		for range 300 {
			at := []int{0, 2, 4}[n.below(3)]
			switch n.below(9) {
			case 0, 1, 2:
				d.Write(at, []byte{byte(n.below(256))})
			case 3:
				d.Erase(at)
			case 4:
				d.Flush()
			case 5:
				d.Arm(n.below(5))
			case 6:
				d.Crash([]byte{byte(n.below(256)), byte(n.below(256)), byte(n.below(256)), 1, 2})
			case 7:
				d.On()
			case 8: // calls that are refused are no writing
				d.Write(1, make([]byte, api.PageSize+1))
				c := d.Copy()
				c.Write(1, nil)
				c.Erase(3)
				c.Crash([]byte{2, 2, 2, 2, 2})
			}
			c := d.Copy()
			c.On()
			stands(t, "P3.3", "a page that was flushed", c, 1, full(1, 2, 3), api.OK)
			stands(t, "P3.3", "a page that was flushed blank", c, 3, nil, api.ENONE)
		}
	}
}

// TestAllPagesWait takes the greatest device, written from its end on.
func TestAllPagesWait(t *testing.T) {
	d := device(t, api.MaxPages)
	picks := make([]byte, api.MaxPages)
	for at := api.MaxPages - 1; at >= 0; at-- {
		d.Write(at, []byte{byte(at), byte(at >> 8)})
		picks[at] = byte(at)
	}
	if w := d.Waiting(); len(w) != api.MaxPages || !slices.IsSorted(w) {
		t.Errorf("P3.2: %d pages wait", len(w))
	}
	d.Crash(picks)
	d.On()
	for at := range api.MaxPages {
		switch byte(at) % 3 {
		case 0:
			stands(t, "P3.2", "pick 0", d, at, nil, api.ENONE)
		case 1:
			stands(t, "P3.2", "pick 1", d, at, full(byte(at), byte(at>>8)), api.OK)
		case 2:
			stands(t, "P3.2", "pick 2", d, at, nil, api.ETORN)
		}
	}
}
