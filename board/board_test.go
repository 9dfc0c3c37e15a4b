package board_test

import (
	"math"
	"testing"

	"dustpan/api"
	"dustpan/board"
)

// made is a board of some mutators.
func made(t *testing.T, muts int) *board.Board {
	t.Helper()
	b, e := board.New(muts)
	if e != api.OK || b == nil {
		t.Fatalf("New(%d): %v, %d", muts, b, e)
	}
	return b
}

// noMuts are numbers of no mutator of a board that has so many.
func noMuts(muts int) []int {
	return []int{math.MinInt, -8, -2, -1, muts, muts + 1, 8, 9, 256, 1 << 32, math.MaxInt}
}

// asks makes a request, or is refused.
func asks(t *testing.T, b *board.Board, kind int, want api.Errno) {
	t.Helper()
	if e := b.Ask(kind); e != want {
		t.Fatalf("Ask(%d): %d; want %d", kind, e, want)
	}
}

// answers answers for some mutators, one by one, each of which is told the same.
func answers(t *testing.T, b *board.Board, want api.Errno, muts ...int) {
	t.Helper()
	for _, m := range muts {
		if e := b.Answer(m); e != want {
			t.Fatalf("Answer(%d): %d; want %d", m, e, want)
		}
	}
}

// holds looks at all that a board tells: count requests, the newest one of that kind, and for each mutator whether it has still to answer it.
func holds(t *testing.T, b *board.Board, count, kind int, owes ...bool) {
	t.Helper()
	all := true
	for m, owe := range owes {
		all = all && !owe
		looks(t, b, m, kind, owe)
		if b.Answered(m) == owe {
			t.Fatalf("Answered(%d): %v", m, owe)
		}
	}
	for _, m := range noMuts(len(owes)) {
		looks(t, b, m, 0, false)
		if b.Answered(m) {
			t.Fatalf("Answered(%d) of %d: true", m, len(owes))
		}
	}
	if b.All() != all || b.Count() != count {
		t.Fatalf("All: %v; Count: %d; want %v, %d", b.All(), b.Count(), all, count)
	}
}

// looks looks at what is pending of a mutator.
func looks(t *testing.T, b *board.Board, m, kind int, want bool) {
	t.Helper()
	if !want {
		kind = 0
	}
	if k, ok := b.Pending(m); k != kind || ok != want {
		t.Fatalf("Pending(%d): %d, %v; want %d, %v", m, k, ok, kind, want)
	}
}

// some is so many of one truth.
func some(n int, is bool) []bool {
	l := make([]bool, n)
	for i := range l {
		l[i] = is
	}
	return l
}

func TestNewHasNoRequest(t *testing.T) {
	for muts := 1; muts <= 8; muts++ {
		b := made(t, muts)
		holds(t, b, 0, 0, some(muts, false)...)
		for m := range muts {
			answers(t, b, api.ErrState, m)
		}
		answers(t, b, api.ErrRange, noMuts(muts)...)
		holds(t, b, 0, 0, some(muts, false)...)
	}
}

func TestNewRefuses(t *testing.T) {
	for _, muts := range []int{math.MinInt, -8, -1, 0, 9, 10, 16, 256, 1<<32 + 1, math.MaxInt} {
		if b, e := board.New(muts); b != nil || e != api.ErrRange {
			t.Errorf("New(%d): %v, %d", muts, b, e)
		}
	}
}

func TestTheExample(t *testing.T) {
	b := made(t, 2)
	asks(t, b, 1, api.OK)
	answers(t, b, api.OK, 0)
	asks(t, b, 2, api.ErrState)
	holds(t, b, 1, 1, false, true)
}

func TestEachAnswersOnce(t *testing.T) {
	for muts := 1; muts <= 8; muts++ {
		b := made(t, muts)
		asks(t, b, api.Scan, api.OK)
		owes := some(muts, true)
		holds(t, b, 1, api.Scan, owes...)
		for i := range muts {
			m := (i*3 + 1) % muts // in another order than their numbers
			if muts%3 == 0 {
				m = muts - 1 - i
			}
			answers(t, b, api.OK, m)
			owes[m] = false
			holds(t, b, 1, api.Scan, owes...)
			answers(t, b, api.ErrState, m)
			answers(t, b, api.ErrRange, noMuts(muts)...)
			holds(t, b, 1, api.Scan, owes...)
		}
	}
}

// TestAskWaitsForEachOne has all but one mutator answer, whichever that is.
func TestAskWaitsForEachOne(t *testing.T) {
	for muts := 1; muts <= 8; muts++ {
		b := made(t, muts)
		for last := range muts {
			asks(t, b, last, api.OK)
			owes := some(muts, true)
			for m := range muts {
				if m != last {
					asks(t, b, 77, api.ErrState)
					answers(t, b, api.OK, m)
					owes[m] = false
				}
			}
			asks(t, b, 77, api.ErrState)
			holds(t, b, last+1, last, owes...)
			answers(t, b, api.OK, last)
			holds(t, b, last+1, 0, some(muts, false)...)
		}
	}
}

func TestARequestIsAskedOfAll(t *testing.T) {
	b := made(t, 3)
	for count, kind := range []int{api.Arm, api.Sync, api.Scan, api.Drain, api.Drain, api.Off} {
		asks(t, b, kind, api.OK)
		holds(t, b, count+1, kind, true, true, true)
		answers(t, b, api.OK, 2, 0, 1)
		holds(t, b, count+1, 0, false, false, false)
	}
}

func TestAnyKind(t *testing.T) {
	b := made(t, 2)
	for count, kind := range []int{0, -1, 8, math.MinInt, math.MaxInt, 0, 1 << 40} {
		asks(t, b, kind, api.OK)
		holds(t, b, count+1, kind, true, true)
		answers(t, b, api.OK, 0, 1)
	}
}

func TestBoardsShareNothing(t *testing.T) {
	b, o := made(t, 2), made(t, 3)
	asks(t, b, 5, api.OK)
	holds(t, o, 0, 0, false, false, false)
	asks(t, o, 6, api.OK)
	answers(t, o, api.OK, 1)
	holds(t, b, 1, 5, true, true)
	holds(t, o, 1, 6, true, false, true)
}

func TestNilBoard(t *testing.T) {
	var b *board.Board
	for _, n := range []int{math.MinInt, -1, 0, 1, 7, 8, math.MaxInt} {
		asks(t, b, n, api.ErrState)
		answers(t, b, api.ErrState, n)
		looks(t, b, n, 0, false)
		if b.Answered(n) {
			t.Errorf("Answered(%d) of a nil board", n)
		}
	}
	if b.All() || b.Count() != 0 {
		t.Error("of a nil board:", b.All(), b.Count())
	}
}

// TestAgainstAMap asks and answers by a fixed rule, and holds a board against a map of whoever has still to answer.
func TestAgainstAMap(t *testing.T) {
	for muts := 1; muts <= 8; muts++ {
		b, owes, count, kind := made(t, muts), map[int]bool{}, 0, 0
		x := uint64(muts)
		for range 2000 {
			x = x*6364136223846793005 + 1442695040888963407
			n := int(x >> 33)
			m := n/4%(muts+2) - 1
			switch {
			case n%4 == 0 && len(owes) > 0:
				asks(t, b, n, api.ErrState)
			case n%4 == 0:
				asks(t, b, n, api.OK)
				count, kind = count+1, n
				for m := range muts {
					owes[m] = true
				}
			case m < 0 || m == muts:
				answers(t, b, api.ErrRange, m)
			case !owes[m]:
				answers(t, b, api.ErrState, m)
			default:
				answers(t, b, api.OK, m)
				delete(owes, m)
			}
			row := make([]bool, muts)
			for m := range owes {
				row[m] = true
			}
			holds(t, b, count, kind, row...)
		}
	}
}
