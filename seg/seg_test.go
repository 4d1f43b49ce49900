package seg

import (
	"fmt"
	"math"
	"slices"
	"testing"
)

// anyIds are numbers of all kinds.
var anyIds = []int{0, 1, -1, 2, -2, 63, -64, 1 << 31, -1 << 31, 1<<32 + 1, 1 << 60, math.MaxInt, math.MaxInt - 1, math.MinInt, math.MinInt + 1}

// adds adds numbers that are new.
func adds(t *testing.T, s *Seg, ids ...int) {
	t.Helper()
	for _, id := range ids {
		if !s.Add(id) {
			t.Fatalf("P13.1: Add(%d), which is new: false", id)
		}
	}
}

// touches uses numbers that are there.
func touches(t *testing.T, s *Seg, ids ...int) {
	t.Helper()
	for _, id := range ids {
		if !s.Touch(id) {
			t.Fatalf("P13.1: Touch(%d), which is there: false", id)
		}
	}
}

// removes takes numbers away that are there.
func removes(t *testing.T, s *Seg, ids ...int) {
	t.Helper()
	for _, id := range ids {
		if !s.Remove(id) {
			t.Fatalf("P13.1: Remove(%d), which is there: false", id)
		}
	}
}

// evicts lets numbers go, and holds them against those that are asked.
func evicts(t *testing.T, s *Seg, want ...int) {
	t.Helper()
	for i, w := range want {
		if id, ok := s.Evict(); id != w || !ok {
			t.Fatalf("P13.2: Evict, time %d: %d, %v, want %d", i, id, ok, w)
		}
	}
}

// tells holds the lists, and their number, against those that are asked.
func tells(t *testing.T, s *Seg, hot, warm, cold []int) {
	t.Helper()
	want := fmt.Sprint(text(hot, warm, cold), ", ", len(hot)+len(warm)+len(cold), " in all")
	if got := state(s); got != want {
		t.Fatalf("P13.2: %s, want %s", got, want)
	}
}

// down has the numbers from the greatest to the least.
func down(greatest, least int) []int {
	var l []int
	for i := greatest; i >= least; i-- {
		l = append(l, i)
	}
	return l
}

// ten has hot 10, 9; warm 8, 7, 6, 5; cold 4, 3, 2, 1, none of them used.
func ten(t *testing.T) *Seg {
	t.Helper()
	s := New()
	for id := 1; id <= 10; id++ {
		adds(t, s, id)
		if id < 9 {
			touches(t, s, id)
		}
	}
	tells(t, s, down(10, 9), down(8, 5), down(4, 1))
	return s
}

// trace goes on with new numbers, and then lets all go: so each one's use is in its text.
func trace(s *Seg) string {
	told := state(s)
	for id := range 40 {
		told += fmt.Sprint(s.Add(1000+id), state(s))
	}
	for range s.Len() + 1 {
		id, ok := s.Evict()
		told += fmt.Sprint(id, ok, state(s))
	}
	return told
}

func TestNewHasNone(t *testing.T) {
	s := New()
	for range 2 {
		tells(t, s, nil, nil, nil)
		if id, ok := s.Evict(); id != 0 || ok {
			t.Fatalf("P13.2: Evict of none: %d, %v", id, ok)
		}
		for _, id := range anyIds {
			if s.Touch(id) || s.Remove(id) {
				t.Fatalf("P13.1: Touch or Remove of %d, of none: true", id)
			}
		}
	}
}

func TestChaptersExample(t *testing.T) {
	s := New()
	adds(t, s, 1, 2, 3)
	tells(t, s, []int{3}, nil, []int{2, 1})
	touches(t, s, 1)
	evicts(t, s, 2)
	tells(t, s, []int{3}, []int{1}, nil)
}

func TestAddOfAnyNumber(t *testing.T) {
	s := New()
	for i, id := range anyIds {
		adds(t, s, id)
		if hot, _, _ := s.Lists(); hot[0] != id || s.Len() != i+1 {
			t.Fatalf("P13.1: Add(%d): %s", id, state(s))
		}
		if s.Add(id) {
			t.Fatalf("P13.1: Add(%d), which is there: true", id)
		}
	}
	for _, id := range anyIds {
		touches(t, s, id)
	}
	for i, id := range anyIds {
		removes(t, s, id)
		if s.Remove(id) || s.Touch(id) || s.Len() != len(anyIds)-i-1 {
			t.Fatalf("P13.1: of %d, which is gone: %s", id, state(s))
		}
	}
	tells(t, s, nil, nil, nil)
}

// R3: a number that is there is refused wherever it is, used or not, and nothing is balanced for it.
func TestAddOfOneThatIsThere(t *testing.T) {
	for used := range 11 {
		for id := 1; id <= 10; id++ {
			s, twin := ten(t), ten(t)
			for _, x := range []*Seg{s, twin} {
				x.Touch(used)
				for _, gone := range []int{1, 2, 3, 4, 5, 9} {
					if gone != id {
						removes(t, x, gone)
					}
				}
			}
			if s.Add(id) || s.Add(id) {
				t.Fatalf("P13.1: Add(%d), which is there: true", id)
			}
			if got, want := trace(s), trace(twin); got != want {
				t.Fatalf("R3: Add(%d) was refused, but %s, want %s", id, got, want)
			}
		}
	}
}

// R3: so are a Touch and a Remove of a number that is not there.
func TestTouchAndRemoveOfNone(t *testing.T) {
	s, twin := ten(t), ten(t)
	touches(t, s, 1, 6, 9)
	touches(t, twin, 1, 6, 9)
	removes(t, s, 3, 7)
	removes(t, twin, 3, 7)
	for _, id := range []int{3, 7, 0, -1, 11, -10, 1<<32 + 1, math.MaxInt, math.MinInt} {
		if s.Touch(id) || s.Remove(id) {
			t.Fatalf("P13.1: Touch or Remove of %d, which is not there: true", id)
		}
	}
	if got, want := trace(s), trace(twin); got != want {
		t.Fatalf("R3: %s, want %s", got, want)
	}
}

// A Touch moves nothing, and as many as may be are no more than one.
func TestTouchMovesNothing(t *testing.T) {
	s, twin := ten(t), ten(t)
	for _, id := range []int{10, 9, 8, 6, 5, 4, 2, 1} {
		touches(t, twin, id)
		touches(t, s, id, id, id)
		tells(t, s, down(10, 9), down(8, 5), down(4, 1))
	}
	if got, want := trace(s), trace(twin); got != want {
		t.Fatalf("P13.1: %s, want %s", got, want)
	}
}

func TestRemoveFromEachPlace(t *testing.T) {
	for id := 1; id <= 10; id++ {
		s := ten(t)
		removes(t, s, id)
		tells(t, s, without(down(10, 9), id), without(down(8, 5), id), without(down(4, 1), id))
		if s.Remove(id) || s.Touch(id) {
			t.Fatalf("P13.1: Remove or Touch of %d, which is gone: true", id)
		}
	}
}

// Nothing is balanced behind a Remove, whatever is left.
func TestRemoveOfAllInAnyOrder(t *testing.T) {
	for step := 1; step <= 10; step++ {
		s := ten(t)
		hot, warm, cold := s.Lists()
		for i := range 10 {
			id := ((i + 1) * step) % 11
			removes(t, s, id)
			hot, warm, cold = without(hot, id), without(warm, id), without(cold, id)
			tells(t, s, hot, warm, cold)
		}
		adds(t, s, 5)
		tells(t, s, []int{5}, nil, nil)
	}
}

// A number that comes again is new: its use of before does not count.
func TestNumberThatComesAgain(t *testing.T) {
	s := New()
	adds(t, s, 1)
	touches(t, s, 1)
	removes(t, s, 1)
	adds(t, s, 1, 2, 3)
	tells(t, s, []int{3}, nil, []int{2, 1})
	touches(t, s, 2)
	evicts(t, s, 1)
	adds(t, s, 1)
	tells(t, s, []int{1}, nil, []int{3, 2})
	evicts(t, s, 3)
	adds(t, s, 3)
	// 2 was used till that Evict, and 3 never.
	tells(t, s, []int{3}, []int{2}, []int{1})
	evicts(t, s, 1, 2, 3)
}

// Of numbers that are never used hot has its share, the newest, and cold the others.
func TestBoundsOfHot(t *testing.T) {
	s := New()
	for n := 1; n <= 300; n++ {
		adds(t, s, n)
		least := n - (n+4)/5 + 1
		tells(t, s, down(n, least), nil, down(least-1, 1))
	}
}

// Of numbers that are used once while they are hot warm has its share too.
func TestBoundsOfWarm(t *testing.T) {
	s := New()
	for n := 1; n <= 300; n++ {
		adds(t, s, n)
		touches(t, s, n)
		hot := n - (n+4)/5
		warm := hot - 2*n/5
		tells(t, s, down(n, hot+1), down(hot, warm+1), down(warm, 1))
	}
}

// The shares at each number of all, and one more or less of them: 5, 6, 10, 11 for hot; 3, 5, 8, 10 for warm.
func TestBoundsByHand(t *testing.T) {
	shares := [][2]int{{1, 0}, {1, 0}, {1, 1}, {1, 1}, {1, 2}, {2, 2}, {2, 2}, {2, 3}, {2, 3}, {2, 4}, {3, 4}, {3, 4}}
	s := New()
	for i, share := range shares {
		adds(t, s, i)
		touches(t, s, i)
		if hot, warm, cold := s.Lists(); len(hot) != share[0] || len(warm) != share[1] || len(cold) != i+1-share[0]-share[1] {
			t.Fatalf("P13.1: of %d: %s", i+1, state(s))
		}
	}
}

// bareTop is what is left of very many when all below the hot and warm ones is gone.
func bareTop(t *testing.T, n int) (s *Seg, hot, warm []int) {
	t.Helper()
	s = New()
	for id := range n {
		adds(t, s, id)
		touches(t, s, id)
	}
	hot, warm, cold := s.Lists()
	removes(t, s, cold...)
	tells(t, s, hot, warm, nil)
	return s, hot, warm
}

// What is too much goes with the next Add, hot's first, warm's behind it; each one by one from its last on.
func TestHotsGoFirstThenWarms(t *testing.T) {
	// 30 leave 6 hot ones that are used, and 12 warm ones: of 19 hot keeps 4 and warm 7.
	s, hot, warm := bareTop(t, 30)
	adds(t, s, 99)
	top := append(slices.Clone(hot[3:]), warm...)
	tells(t, s, append([]int{99}, hot[:3]...), top[:7], top[7:])

	// None is used: those of hot go to cold, and those of warm ahead of them.
	s = ten(t)
	removes(t, s, 4, 3, 2, 1)
	adds(t, s, 11)
	tells(t, s, []int{11, 10}, []int{8, 7}, []int{6, 5, 9})
	removes(t, s, 6, 5, 9)
	adds(t, s, 12)
	tells(t, s, []int{12}, []int{8, 7}, []int{11, 10})
}

// A use is spent by the way to warm: if warm has no room, not even this one is kept there.
func TestUseIsSpentOnTheWayToWarm(t *testing.T) {
	s := New()
	adds(t, s, 1)
	touches(t, s, 1)
	adds(t, s, 2)
	tells(t, s, []int{2}, nil, []int{1})
	evicts(t, s, 1)

	s = New()
	adds(t, s, 1, 2)
	touches(t, s, 2)
	adds(t, s, 3)
	tells(t, s, []int{3}, []int{2}, []int{1})
	touches(t, s, 3)
	adds(t, s, 4)
	tells(t, s, []int{4}, []int{3}, []int{2, 1})
	evicts(t, s, 1, 2, 3, 4)
}

// Warm's last one that is used is kept once, and one less near to its end goes for it.
func TestUsedWarmIsKeptOnce(t *testing.T) {
	s := ten(t)
	touches(t, s, 5, 9)
	adds(t, s, 11)
	tells(t, s, down(11, 9), down(8, 5), down(4, 1))
	adds(t, s, 12)
	tells(t, s, down(12, 10), []int{5, 9, 8, 7}, []int{6, 4, 3, 2, 1})
	removes(t, s, 6, 4, 3, 2, 1)
	adds(t, s, 13)
	tells(t, s, []int{13, 12}, []int{5, 9, 8}, []int{7, 11, 10})
	removes(t, s, 7, 8, 9, 10, 11)
	tells(t, s, []int{13, 12}, []int{5}, nil)
	touches(t, s, 12)
	adds(t, s, 14)
	// Now 5 is not used any more.
	tells(t, s, []int{14}, []int{12}, []int{5, 13})
}

// With all of warm used each one is kept once, and then the last ones go.
func TestAllOfWarmUsed(t *testing.T) {
	s := ten(t)
	touches(t, s, 8, 7, 6, 5)
	removes(t, s, 4, 3, 2, 1)
	adds(t, s, 11)
	tells(t, s, []int{11, 10}, []int{8, 7}, []int{6, 5, 9})
	removes(t, s, 6, 5, 9, 10)
	adds(t, s, 12)
	tells(t, s, []int{12}, []int{8}, []int{7, 11})
}

// A use in warm lasts over all balances till it is this one's turn.
func TestUseInWarmLasts(t *testing.T) {
	s := ten(t)
	touches(t, s, 8)
	removes(t, s, 4, 3, 2, 1)
	adds(t, s, 11)
	tells(t, s, []int{11, 10}, []int{8, 7}, []int{6, 5, 9})
	removes(t, s, 5, 6, 9)
	adds(t, s, 12)
	tells(t, s, []int{12}, []int{8, 7}, []int{11, 10})
	removes(t, s, 7, 10, 11)
	touches(t, s, 12)
	adds(t, s, 13)
	tells(t, s, []int{13}, []int{8}, []int{12})
}

// A use in hot lasts over all balances till it is this one's turn.
func TestUseInHotLasts(t *testing.T) {
	s := ten(t)
	touches(t, s, 10)
	adds(t, s, 11)
	tells(t, s, []int{11, 10, 9}, down(8, 5), down(4, 1))
	adds(t, s, 12)
	tells(t, s, []int{12, 11, 10}, down(8, 5), []int{9, 4, 3, 2, 1})
	adds(t, s, 13)
	tells(t, s, []int{13, 12, 11}, []int{10, 8, 7, 6, 5}, []int{9, 4, 3, 2, 1})
	adds(t, s, 14)
	tells(t, s, []int{14, 13, 12}, []int{10, 8, 7, 6, 5}, []int{11, 9, 4, 3, 2, 1})
}

// A use in cold lasts over all balances and Evicts till this one is the last; then it is warm, and not used.
func TestUseInColdLasts(t *testing.T) {
	s := ten(t)
	touches(t, s, 2)
	adds(t, s, 11, 12)
	tells(t, s, []int{12, 11, 10}, down(8, 5), []int{9, 4, 3, 2, 1})
	evicts(t, s, 1)
	tells(t, s, []int{12, 11, 10}, down(8, 5), []int{9, 4, 3, 2})
	evicts(t, s, 3)
	tells(t, s, []int{12, 11, 10}, []int{2, 8, 7, 6, 5}, []int{9, 4})
	removes(t, s, 4, 6, 7, 8, 9, 10)
	touches(t, s, 11)
	tells(t, s, []int{12, 11}, []int{2, 5}, nil)
	adds(t, s, 13)
	tells(t, s, []int{13}, []int{11, 2}, []int{5, 12})
	evicts(t, s, 12, 5, 2, 11, 13)
}

// Of cold's last ones as many as are used are spared, one by one from the last on.
func TestEvictSparesColdsUsed(t *testing.T) {
	for used := range 4 {
		s := ten(t)
		touches(t, s, []int{1, 2, 3}[:used]...)
		evicts(t, s, used+1)
		tells(t, s, down(10, 9), append(down(used, 1), 8, 7, 6, 5), down(4, used+2))
	}
	// Those that are used, but stand ahead of one that is not, stay where they are.
	s := ten(t)
	touches(t, s, 4, 3, 2)
	evicts(t, s, 1)
	tells(t, s, down(10, 9), down(8, 5), down(4, 2))
}

func TestEvictWithAllOfColdUsed(t *testing.T) {
	s := ten(t)
	touches(t, s, 1, 2, 3, 4)
	evicts(t, s, 5)
	// Warm has more than its share till the next Add.
	tells(t, s, down(10, 9), []int{4, 3, 2, 1, 8, 7, 6}, nil)
	if !s.Touch(10) || s.Add(4) || s.Touch(5) || s.Remove(5) {
		t.Fatalf("P13.1: of some that are there and one that is gone: %s", state(s))
	}
	tells(t, s, down(10, 9), []int{4, 3, 2, 1, 8, 7, 6}, nil)
	adds(t, s, 11)
	tells(t, s, []int{11, 10}, down(4, 1), []int{8, 7, 6, 9})

	// With warm empty, the one that is spared first leaves as warm's last.
	for _, also := range [][]int{{}, {3}} {
		s = New()
		adds(t, s, 1, 2, 3)
		touches(t, s, 1, 2)
		touches(t, s, also...)
		evicts(t, s, 1)
		tells(t, s, []int{3}, []int{2}, nil)
		evicts(t, s, 2, 3)
	}
}

// Where cold is empty, warm's last one leaves, used or not; and then hot's.
func TestEvictWithColdEmpty(t *testing.T) {
	for _, used := range [][]int{{}, {5}, {9}, {5, 6, 7, 8, 9, 10}} {
		s := ten(t)
		removes(t, s, 1, 2, 3, 4)
		touches(t, s, used...)
		for gone := 5; gone <= 8; gone++ {
			evicts(t, s, gone)
			tells(t, s, down(10, 9), down(8, gone+1), nil)
		}
		evicts(t, s, 9)
		tells(t, s, []int{10}, nil, nil)
		evicts(t, s, 10)
		tells(t, s, nil, nil, nil)
		if id, ok := s.Evict(); id != 0 || ok {
			t.Fatalf("P13.2: Evict of none: %d, %v", id, ok)
		}
		adds(t, s, 10)
		tells(t, s, []int{10}, nil, nil)
	}
}

// Nothing is balanced behind an Evict, and a number that left is there no more.
func TestEvictOfAll(t *testing.T) {
	s := ten(t)
	hot, warm, cold := s.Lists()
	for id := 1; id <= 10; id++ {
		evicts(t, s, id)
		hot, warm, cold = without(hot, id), without(warm, id), without(cold, id)
		tells(t, s, hot, warm, cold)
		if s.Touch(id) || s.Remove(id) {
			t.Fatalf("P13.2: Touch or Remove of %d, which left: true", id)
		}
	}
}

// Evict of the number 0 is told by true.
func TestEvictOfNought(t *testing.T) {
	s := New()
	for _, id := range anyIds {
		adds(t, s, id)
	}
	evicts(t, s, anyIds...)
	if id, ok := s.Evict(); id != 0 || ok {
		t.Fatalf("P13.2: Evict of none: %d, %v", id, ok)
	}
}

// spoil changes a row and all room behind it.
func spoil(row []int) {
	row = row[:cap(row)]
	for i := range row {
		row[i] = -99
	}
}

// R4: what was told may be changed, with the room behind it, and nothing else hears of it.
func TestRowsAreTheCallersOwn(t *testing.T) {
	for _, gone := range [][]int{{}, {4, 2}, down(4, 1), down(8, 5), {10, 9}, down(8, 1), down(10, 1)} {
		for which := range 3 {
			s := ten(t)
			removes(t, s, gone...)
			want := state(s)
			rows, other := [3][]int{}, [3][]int{}
			rows[0], rows[1], rows[2] = s.Lists()
			other[0], other[1], other[2] = s.Lists()
			spoil(rows[which])
			rows[which] = other[which]
			if got := text(rows[0], rows[1], rows[2]); got != text(other[0], other[1], other[2]) {
				t.Fatalf("R4: two rows share memory: %s, want %s", got, want)
			}
			if got := state(s); got != want {
				t.Fatalf("R4: a row is not the caller's own: of %s it made %s", want, got)
			}
		}
	}
	s := ten(t)
	hot, warm, cold := s.Lists()
	told := text(hot, warm, cold)
	trace(s)
	if got := text(hot, warm, cold); got != told {
		t.Fatalf("R4: rows that were told change: of %s it made %s", told, got)
	}
}

// Lists and Len change nothing, uses among it.
func TestAskingChangesNothing(t *testing.T) {
	s, twin := ten(t), ten(t)
	for _, x := range []*Seg{s, twin} {
		touches(t, x, 1, 3, 5, 7, 9)
		removes(t, x, 2)
	}
	for range 5 {
		s.Lists()
		s.Len()
	}
	if got, want := trace(s), trace(twin); got != want {
		t.Fatalf("P13.2: %s, want %s", got, want)
	}
}

func TestTwoShareNothing(t *testing.T) {
	s, other := ten(t), New()
	tells(t, other, nil, nil, nil)
	if other.Touch(1) || other.Remove(1) {
		t.Fatalf("P13.1: one knows the other's numbers: %s", state(other))
	}
	adds(t, other, 1, 2)
	touches(t, other, 1)
	removes(t, other, 2)
	tells(t, s, down(10, 9), down(8, 5), down(4, 1))
	evicts(t, s, 1)
	tells(t, other, nil, nil, []int{1})
}
