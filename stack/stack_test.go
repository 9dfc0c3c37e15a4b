package stack_test

import (
	"math"
	"slices"
	"testing"

	"dustpan/api"
	"dustpan/stack"
)

// made is a stack of a room, with these numbers.
func made(t *testing.T, room int, l ...int) *stack.Stack {
	t.Helper()
	s, e := stack.New(room)
	if e != api.OK || s == nil {
		t.Fatalf("New(%d): %v, %d", room, s, e)
	}
	pushes(t, s, l...)
	return s
}

// pushes pushes some numbers, one by one.
func pushes(t *testing.T, s *stack.Stack, l ...int) {
	t.Helper()
	for _, n := range l {
		if !s.Push(n) {
			t.Fatalf("Push(%d) is refused", n)
		}
	}
}

// refuses pushes what a full stack refuses.
func refuses(t *testing.T, s *stack.Stack, n int) {
	t.Helper()
	if s.Push(n) {
		t.Fatalf("Push(%d) isn't refused", n)
	}
}

// pops pops a number, which is that one.
func pops(t *testing.T, s *stack.Stack, want int) {
	t.Helper()
	if n, ok := s.Pop(); !ok || n != want {
		t.Fatalf("Pop: %d, %v; want %d", n, ok, want)
	}
}

// popsNone pops where there is none.
func popsNone(t *testing.T, s *stack.Stack) {
	t.Helper()
	if n, ok := s.Pop(); ok || n != 0 {
		t.Fatalf("Pop of none: %d, %v", n, ok)
	}
}

// calms calms a stack whose mark is so.
func calms(t *testing.T, s *stack.Stack, want bool) {
	t.Helper()
	if s.Calm() != want {
		t.Fatalf("Calm: %v", !want)
	}
}

// holds looks at all that a stack tells.
func holds(t *testing.T, s *stack.Stack, over bool, want ...int) {
	t.Helper()
	if s.Len() != len(want) || !slices.Equal(s.All(), want) {
		t.Fatalf("%d: %v; want %v", s.Len(), s.All(), want)
	}
	if s.Over() != over {
		t.Fatalf("Over: %v", !over)
	}
}

func TestNewHasNone(t *testing.T) {
	for _, room := range []int{1, 2, 100, 4095, 4096} {
		s := made(t, room)
		holds(t, s, false)
		popsNone(t, s)
		calms(t, s, false)
		holds(t, s, false)
	}
}

func TestNewRefuses(t *testing.T) {
	for _, room := range []int{math.MinInt, -4096, -1, 0, 4097, 8192, 1<<32 + 1, math.MaxInt} {
		if s, e := stack.New(room); s != nil || e != api.ErrRange {
			t.Errorf("New(%d): %v, %d", room, s, e)
		}
	}
}

func TestTheExample(t *testing.T) {
	s := made(t, 1)
	pushes(t, s, 5)
	refuses(t, s, 6)
	holds(t, s, true, 5)
	pops(t, s, 5)
	holds(t, s, true)
}

func TestTheTopOneIsLast(t *testing.T) {
	s := made(t, 5)
	pushes(t, s, 7)
	holds(t, s, false, 7)
	pushes(t, s, 8, 7)
	holds(t, s, false, 7, 8, 7)
	pops(t, s, 7)
	holds(t, s, false, 7, 8)
	pops(t, s, 8)
	pushes(t, s, 9)
	holds(t, s, false, 7, 9)
	pops(t, s, 9)
	pops(t, s, 7)
	popsNone(t, s)
	holds(t, s, false)
	pushes(t, s, 1)
	holds(t, s, false, 1)
}

func TestAnyNumbers(t *testing.T) {
	l := []int{0, -1, math.MinInt, math.MaxInt, 4097, 1 << 40, 0}
	s := made(t, 7, l...)
	holds(t, s, false, l...)
	for _, n := range slices.Backward(l) {
		pops(t, s, n)
	}
	popsNone(t, s)
}

func TestFullAtItsRoom(t *testing.T) {
	for _, room := range []int{1, 2, 3, 64, 1000, 4096} {
		s := made(t, room)
		var l []int
		for n := range room {
			pushes(t, s, -n)
			l = append(l, -n)
		}
		holds(t, s, false, l...)
		refuses(t, s, 5)
		holds(t, s, true, l...)
		refuses(t, s, 6)
		holds(t, s, true, l...)
		pops(t, s, l[room-1])
		pushes(t, s, 77)
		l[room-1] = 77
		holds(t, s, true, l...)
		refuses(t, s, 78)
		holds(t, s, true, l...)
	}
}

func TestTheMarkStaysTillItIsCalmed(t *testing.T) {
	s := made(t, 2, 1, 2)
	calms(t, s, false)
	refuses(t, s, 3)
	holds(t, s, true, 1, 2)
	pops(t, s, 2)
	pops(t, s, 1)
	popsNone(t, s)
	holds(t, s, true)
	pushes(t, s, 4)
	holds(t, s, true, 4)
	calms(t, s, true)
	holds(t, s, false, 4)
	calms(t, s, false)
	holds(t, s, false, 4)
	pushes(t, s, 5)
	refuses(t, s, 6)
	refuses(t, s, 7)
	calms(t, s, true)
	calms(t, s, false)
	refuses(t, s, 8)
	holds(t, s, true, 4, 5)
}

func TestOnlyARefusalSetsTheMark(t *testing.T) {
	s := made(t, 2)
	for range 5 {
		pushes(t, s, 1, 2)
		holds(t, s, false, 1, 2) // full, but none was refused
		pops(t, s, 2)
		pops(t, s, 1)
		popsNone(t, s)
	}
	holds(t, s, false)
	calms(t, s, false)
}

func TestAllIsNewMemory(t *testing.T) {
	s := made(t, 4, 1, 2, 3)
	pops(t, s, 3)
	l, m := s.All(), s.All()
	clear(l[:cap(l)])
	if !slices.Equal(m, []int{1, 2}) {
		t.Error("two answers share memory:", m)
	}
	holds(t, s, false, 1, 2)
	pushes(t, s, 4)
	if !slices.Equal(m, []int{1, 2}) {
		t.Error("an answer has changed:", m)
	}
	pops(t, s, 4)
	pops(t, s, 2)
	pushes(t, s, 9)
	if !slices.Equal(m, []int{1, 2}) {
		t.Error("an answer has changed:", m)
	}
	_ = append(m[:0], 70, 71, 72)
	holds(t, s, false, 1, 9)
}

func TestStacksShareNothing(t *testing.T) {
	s, o := made(t, 1, 5), made(t, 1)
	refuses(t, s, 6)
	holds(t, o, false)
	pushes(t, o, 7)
	calms(t, o, false)
	holds(t, s, true, 5)
	holds(t, o, false, 7)
}

func TestNilStack(t *testing.T) {
	var s *stack.Stack
	for _, n := range []int{math.MinInt, -1, 0, 1, math.MaxInt} {
		refuses(t, s, n)
		popsNone(t, s)
		holds(t, s, false)
		calms(t, s, false)
	}
}

// TestAgainstARow pushes, pops and calms by a fixed rule, and holds a stack against a row of numbers.
func TestAgainstARow(t *testing.T) {
	for _, room := range []int{1, 2, 5, 40} {
		s, want, over := made(t, room), []int(nil), false
		x := uint64(room)
		for range 3000 {
			x = x*6364136223846793005 + 1442695040888963407
			n := int(x >> 33)
			switch what := n % 8; {
			case what == 0:
				calms(t, s, over)
				over = false
			case what < 4 && len(want) == 0:
				popsNone(t, s)
			case what < 4:
				pops(t, s, want[len(want)-1])
				want = want[:len(want)-1]
			case len(want) == room:
				refuses(t, s, n)
				over = true
			default:
				pushes(t, s, n)
				want = append(want, n)
			}
			holds(t, s, over, want...)
		}
	}
}
