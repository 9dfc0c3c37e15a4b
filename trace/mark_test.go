package trace_test

import (
	"math"
	"slices"
	"testing"

	"dustpan/api"
	"dustpan/heap"
	"dustpan/trace"
)

// colored are the objects of a heap that have a color.
func colored(t *testing.T, h *heap.Heap, color int) []int {
	t.Helper()
	var l []int
	for _, a := range h.Objects() {
		c, e := h.Color(a)
		if e != api.OK {
			t.Fatalf("Color(%d): %d", a, e)
		}
		if c == color {
			l = append(l, a)
		}
	}
	return l
}

// marks marks, which tells so much, and looks at whether just what is reached is painted.
func marks(t *testing.T, h *heap.Heap, color, room int, roots []int, painted, again int) {
	t.Helper()
	n, m, e := trace.Mark(h, color, room, roots...)
	if n != painted || m != again || e != api.OK {
		t.Errorf("Mark(%d, %d, %v): %d, %d, %d; want %d, %d", color, room, roots, n, m, e, painted, again)
	}
	same(t, "painted", colored(t, h, color), trace.Reach(h, roots...)...)
}

// row is a heap of objects of two fields, 1, 5, 9 and so on, as many as that.
func row(t *testing.T, n int) *heap.Heap {
	t.Helper()
	h := made(t, (n+3)/4, 16)
	for i := range n {
		makes(t, h, 2, 1+4*i)
	}
	return h
}

// All objects get the other color, then what is reached is painted, whatever had which color.
func TestMark(t *testing.T) {
	for color := range 2 {
		for _, room := range []int{4, 100, 4095, 4096} {
			for was := range 2 {
				h := some(t)
				for i, a := range all() {
					h.Paint(a, (i+was)%2)
				}
				marks(t, h, color, room, nil, 0, 0)
				marks(t, h, color, room, []int{13}, 4, 0)
				marks(t, h, color, room, []int{17}, 1, 0)
				marks(t, h, color, room, []int{33}, 7, 0)
				marks(t, h, color, room, []int{9, 17, 9, 17}, 4, 0)
				marks(t, h, color, room, noObjects(), 0, 0)
				marks(t, h, color, room, append(noObjects(), 5), 3, 0)
			}
		}
	}
}

// Marking changes nothing but colors.
func TestMarkChangesColorsAlone(t *testing.T) {
	for _, room := range []int{1, 4096} {
		h := some(t)
		unchanged(t, h, func() {
			roots := []int{33, 0, 21}
			marks(t, h, 1, room, roots[:1:1], 7, map[int]int{1: 1}[room])
			trace.Mark(h, 1, room, roots...)
			same(t, "roots", roots, 33, 0, 21)
			for _, a := range all() {
				h.Paint(a, 0) // as it was
			}
		})
	}
}

// Of no heap, no color, or no room, in that order, nothing is marked.
func TestMarkRefused(t *testing.T) {
	h := some(t)
	colors := []int{math.MinInt, -2, -1, 2, 3, 1 << 32, math.MaxInt}
	rooms := []int{math.MinInt, -1, 0, 4097, 1<<32 + 1, math.MaxInt}
	refused := func(h *heap.Heap, color, room int, want api.Errno) {
		t.Helper()
		if n, again, e := trace.Mark(h, color, room, 1, 17); n != 0 || again != 0 || e != want {
			t.Errorf("Mark(%d, %d): %d, %d, %d; want %d", color, room, n, again, e, want)
		}
	}
	h.Paint(1, 1)
	h.Paint(33, 1)
	unchanged(t, h, func() {
		for _, room := range append(rooms, 1, 4096) {
			for _, color := range colors {
				refused(h, color, room, api.ErrArg)
				refused(nil, color, room, api.ErrState)
			}
			refused(nil, 0, room, api.ErrState)
			refused(nil, 1, room, api.ErrState)
		}
		for _, room := range rooms {
			refused(h, 0, room, api.ErrRange)
			refused(h, 1, room, api.ErrRange)
		}
	})
	for _, color := range append(colors, 0, 1) {
		if _, _, e := trace.Mark(made(t, 1, 16), color, 1); (e == api.OK) != (color == 0 || color == 1) {
			t.Errorf("Mark(%d) without objects: %d", color, e)
		}
	}
}

// What the stack refuses of one object's fields is found by one look at all.
func TestMarkOfManyFields(t *testing.T) {
	h := made(t, 4, 16)
	makes(t, h, 15, 1)
	var leaves []int
	for a := 17; a <= 45; a += 2 {
		makes(t, h, 0, a)
		leaves = append(leaves, a)
	}
	lays(t, h, 1, leaves...)
	for room, again := range map[int]int{1: 1, 2: 1, 14: 1, 15: 0, 16: 0, 4096: 0} {
		marks(t, h, 1, room, []int{1}, 16, again)
		marks(t, h, 0, room, leaves, 15, again)
		marks(t, h, 1, room, append(leaves, 1), 16, map[bool]int{true: 0, false: 1}[room >= 16])
	}
}

// All roots are met ahead of what is popped.
func TestMarkOfManyRoots(t *testing.T) {
	h := row(t, 4)
	lays(t, h, 1, 9)
	lays(t, h, 5, 13)
	marks(t, h, 1, 1, []int{1, 5}, 4, 1)
	marks(t, h, 1, 2, []int{1, 5}, 4, 0)
	marks(t, h, 1, 1, []int{1, 1, 1, 9}, 2, 1)
	marks(t, h, 1, 1, []int{1, 1, 1}, 2, 0)
}

// A look at all goes on by rising addresses, and looks at what it paints itself, if that comes later: so what rises takes two, but what falls one for each object that was refused.
func TestMarkRisingAndFalling(t *testing.T) {
	for _, n := range []int{1, 2, 5, 30} {
		// Each has a leaf, which a stack of 1 takes, and the next one, which it refuses; the last one has neither.
		rises, falls := row(t, 2*n+1), row(t, 2*n+1)
		at := func(i int) int { return 1 + 4*i }
		for i := range n {
			lays(t, rises, at(2*i), at(2*i+1), at(2*i+2))
			lays(t, falls, at(2*i+2), at(2*i+1), at(2*i))
		}
		all := 2*n + 1
		marks(t, rises, 1, 1, []int{at(0)}, all, min(n, 2))
		marks(t, falls, 1, 1, []int{at(2 * n)}, all, n)
		// With more room each next one is popped ahead of the leaves, which stay below it.
		marks(t, rises, 0, n, []int{at(0)}, all, 1)
		marks(t, falls, 0, n, []int{at(2 * n)}, all, 1)
		marks(t, rises, 1, n+1, []int{at(0)}, all, 0)
		marks(t, falls, 1, n+1, []int{at(2 * n)}, all, 0)
	}
}

// A list of thirty objects is marked whole, with any room; so is a loop.
func TestMarkOfAList(t *testing.T) {
	h := row(t, 30)
	for i := range 29 {
		lays(t, h, 1+4*i, 5+4*i, 5+4*i)
	}
	for _, room := range []int{1, 2, 30} {
		marks(t, h, 1, room, []int{1}, 30, 0)
		marks(t, h, 0, room, []int{61}, 15, 0)
	}
	lays(t, h, 117, 1, 117)
	marks(t, h, 1, 1, []int{61}, 30, 0)
}

// Marking ends soon, even where each of very many objects takes a look at all.
func TestManyLooks(t *testing.T) {
	h := made(t, 1024, api.MaxWords)
	n, last := 0, 0
	for {
		leaf, e := h.Make(1, 0)
		a, f := h.Make(2, 0)
		if e != api.OK || f != api.OK {
			break
		}
		lays(t, h, a, leaf, last)
		n, last = n+1, a
	}
	painted, again, e := trace.Mark(h, 1, 1, last)
	if painted != 2*n || again < n/2 || again > painted || e != api.OK {
		t.Errorf("Mark: %d, %d, %d; want %d", painted, again, e, 2*n)
	}
}

// random is a heap with whatever slots and fields, and some addresses to begin at.
func random(t *testing.T, seed uint32) (*heap.Heap, []int) {
	t.Helper()
	x := seed*2654435761 + 1
	roll := func(n int) int {
		x = x*1664525 + 1013904223
		return int(x>>8) % n
	}
	h := made(t, 1+roll(12), 16+roll(40))
	for range roll(16) {
		h.Assign(roll(4))
	}
	hands := h.Hands()
	anything := func() int {
		if len(hands) == 0 || roll(8) == 0 {
			return roll(h.Config().Blocks*h.Config().Words + 1)
		}
		return hands[roll(len(hands))]
	}
	dense := 2 + roll(4)
	for _, a := range hands {
		what := roll(6)
		if what == 5 {
			h.Put(a)
			continue
		}
		h.Begin(a, roll(2<<roll(4))) // too many are refused, so that some are in hand without fields
		n, _ := h.Fields(a)
		for field := range n {
			h.Store(a, field, min(roll(dense), 1)*anything())
		}
		if what < 4 {
			h.Bear(a, what%2)
		}
	}
	var roots []int
	for range roll(6) {
		roots = append(roots, anything())
	}
	return h, roots
}

// plainReach is what is reached: as long as a field of what is reached is an object that isn't, that is, too.
func plainReach(h *heap.Heap, roots []int) []int {
	var l []int
	meet := func(a int) {
		if h.Is(a) && !slices.Contains(l, a) {
			l = append(l, a)
		}
	}
	for _, a := range roots {
		meet(a)
	}
	for was := -1; was != len(l); {
		was = len(l)
		for _, a := range l[:was] {
			n, _ := h.Fields(a)
			for field := range n {
				v, _ := h.Load(a, field)
				meet(v)
			}
		}
	}
	slices.Sort(l)
	return l
}

// plainMark is how many objects marking paints, and how often it looks at all once more, by the chapter's words, without painting any.
func plainMark(h *heap.Heap, room int, roots []int) (int, int) {
	painted, refused, again := map[int]bool{}, false, 0
	var pushed []int
	meet := func(a int) {
		switch {
		case !h.Is(a) || painted[a]:
			return
		case len(pushed) < room:
			pushed = append(pushed, a)
		default:
			refused = true
		}
		painted[a] = true
	}
	look := func(a int) {
		n, _ := h.Fields(a)
		for field := range n {
			v, _ := h.Load(a, field)
			meet(v)
		}
	}
	for _, a := range roots {
		meet(a)
	}
	for len(pushed) > 0 || refused {
		if last := len(pushed) - 1; last >= 0 {
			a := pushed[last]
			pushed = pushed[:last]
			look(a)
			continue
		}
		refused = false
		again++
		for _, a := range h.Objects() {
			if painted[a] {
				look(a)
			}
		}
	}
	return len(painted), again
}

// Whatever the heap and the roots are, what is told is what the chapter's words say.
func TestAgainstPlain(t *testing.T) {
	looks := 0
	for seed := range uint32(1500) {
		h, roots := random(t, seed)
		want := plainReach(h, roots)
		same(t, "Reach", trace.Reach(h, roots...), want...)
		same(t, "Garbage", trace.Garbage(h, roots...), others(h, want)...)
		for _, room := range []int{1, 2, 3, 7, 4096} {
			for color := range 2 {
				painted, again := plainMark(h, room, roots)
				marks(t, h, color, room, roots, painted, again)
				same(t, "painted", colored(t, h, color), want...)
				looks += again
				if painted != len(want) || again > painted || again != 0 && room >= len(h.Objects()) {
					t.Errorf("room %d: %d painted, %d looks", room, painted, again)
				}
			}
		}
		if t.Failed() {
			t.Fatalf("seed %d", seed)
		}
	}
	if looks < 1000 {
		t.Errorf("only %d looks in all", looks)
	}
}
