package heap_test

import (
	"math"
	"slices"
	"testing"

	"dustpan/api"
	"dustpan/heap"
)

// mixed is four, with objects 1, 21 and 61 of 1, 2 and 15 fields, free slots 3 and 41, and slots 5 and 25 in hand that are begun.
func mixed(t *testing.T) *heap.Heap {
	t.Helper()
	h := four(t)
	bears(t, h, 1, 1, 0)
	bears(t, h, 21, 2, 1)
	bears(t, h, 61, 15, 0)
	does(t, h.Begin(3, 1), h.Put(3), h.Begin(5, 1), h.Begin(25, 3), h.Put(41))
	return h
}

// noObjects are addresses of mixed that are no object's, but 0.
func noObjects() []int {
	return append(noSlots(), 3, 41, 5, 25, 7, 29, 49)
}

// without are the numbers of a list, but some.
func without(l []int, but ...int) []int {
	return slices.DeleteFunc(l, func(n int) bool { return slices.Contains(but, n) })
}

// has looks at an object's fields.
func has(t *testing.T, h *heap.Heap, a int, want ...int) {
	t.Helper()
	if n, e := h.Fields(a); n != len(want) || e != api.OK {
		t.Errorf("Fields(%d): %d, %d; want %d", a, n, e, len(want))
	}
	for field, w := range want {
		if v, e := h.Load(a, field); v != w || e != api.OK {
			t.Errorf("Load(%d, %d): %d, %d; want %d", a, field, v, e, w)
		}
	}
}

// colored looks at an object's color.
func colored(t *testing.T, h *heap.Heap, a, want int) {
	t.Helper()
	if c, e := h.Color(a); c != want || e != api.OK {
		t.Errorf("Color(%d): %d, %d; want %d", a, c, e, want)
	}
}

func TestMixedIsAsSaid(t *testing.T) {
	holds(t, mixed(t), state{
		objects: []int{1, 21, 61},
		frees:   [4][]int{{3}, nil, {41}, nil},
		hands:   without(all(), 1, 21, 61, 3, 41),
	})
}

func TestBeginOfEachSize(t *testing.T) {
	for k, room := range []int{1, 3, 7, 15} {
		for _, a := range fours()[k] {
			h := four(t)
			for fields := range room + 1 {
				does(t, h.Begin(a, fields)) // it may be begun anew
				has(t, h, a, make([]int, fields)...)
			}
			told := words(h)
			for _, fields := range append(noCounts(), room+1) {
				is(t, "Begin without room", h.Begin(a, fields), api.ErrSize)
			}
			if !slices.Equal(words(h), told) {
				t.Errorf("a refused Begin(%d) has changed something", a)
			}
			holds(t, h, state{hands: all()}) // it isn't born by that
		}
	}
}

func TestBeginLaysOneWord(t *testing.T) {
	h := four(t)
	does(t, h.Begin(41, 7))
	for field := range 7 {
		does(t, h.Store(41, field, 40+field))
	}
	does(t, h.Begin(41, 2))
	has(t, h, 41, 40, 41)
	does(t, h.Begin(41, 7))
	has(t, h, 41, 40, 41, 42, 43, 44, 45, 46)
}

func TestBeginRefuses(t *testing.T) {
	h := mixed(t)
	unchanged(t, h, func() {
		for _, fields := range append(noCounts(), 0, 1, 15) {
			for _, a := range append(noSlots(), 0, 1, 21, 61, 3, 41) {
				is(t, "Begin of what isn't in hand", h.Begin(a, fields), api.ErrArg)
			}
		}
	})
	bears(t, h, 5, 0, 1)
	is(t, "Begin of what is born", h.Begin(5, 1), api.ErrArg)
	does(t, h.Free(5))
	is(t, "Begin of what is freed", h.Begin(5, 1), api.ErrArg)
	takes(t, h, 0, 5)
	does(t, h.Begin(5, 1))
}

func TestBear(t *testing.T) {
	for color := range 2 {
		h := mixed(t)
		does(t, h.Store(25, 1, 61), h.Bear(25, color))
		holds(t, h, state{
			objects: []int{1, 21, 25, 61},
			frees:   [4][]int{{3}, nil, {41}, nil},
			hands:   without(all(), 1, 21, 25, 61, 3, 41),
		})
		colored(t, h, 25, color)
		has(t, h, 25, 0, 61, 0) // its words are what they were
	}
}

func TestBearRefuses(t *testing.T) {
	h := mixed(t)
	unchanged(t, h, func() {
		for _, color := range append(noColors(), 0, 1) {
			for _, a := range append(noSlots(), 0, 1, 21, 61, 3, 41) {
				is(t, "Bear of what isn't in hand", h.Bear(a, color), api.ErrArg)
			}
		}
		for _, color := range noColors() {
			is(t, "Bear of no color", h.Bear(5, color), api.ErrArg)
			is(t, "Bear of no color, not begun", h.Bear(7, color), api.ErrArg)
		}
		for _, a := range []int{7, 29, 49} {
			is(t, "Bear of what isn't begun", h.Bear(a, 0), api.ErrState)
		}
	})
	takes(t, h, 0, 3)
	is(t, "Bear of what was free", h.Bear(3, 0), api.ErrState) // it was begun ahead of that
}

func TestBearOnceMore(t *testing.T) {
	h := four(t)
	for _, color := range []int{1, 0, 0, 1, 1, 0} {
		bears(t, h, 61, 3, color)
		colored(t, h, 61, color)
		does(t, h.Free(61))
		is(t, "Bear of what is free", h.Bear(61, color), api.ErrArg)
		takes(t, h, 3, 61)
		is(t, "Bear of what was freed", h.Bear(61, color), api.ErrState)
	}
}

func TestFree(t *testing.T) {
	h := mixed(t)
	does(t, h.Free(21), h.Free(1))
	want := state{
		objects: []int{61},
		frees:   [4][]int{{1, 3}, {21}, {41}, nil},
		hands:   without(all(), 1, 21, 61, 3, 41),
	}
	holds(t, h, want)
	for _, a := range []int{1, 21} {
		is(t, "Free once more", h.Free(a), api.ErrArg)
		if n, e := h.Fields(a); n != 0 || e != api.ErrArg {
			t.Errorf("Fields(%d): %d, %d", a, n, e)
		}
	}
	holds(t, h, want)
	takes(t, h, 0, 1)
	takes(t, h, 0, 3)
}

func TestFreeRefuses(t *testing.T) {
	h := mixed(t)
	unchanged(t, h, func() {
		for _, a := range append(noObjects(), 0) {
			is(t, "Free of no object", h.Free(a), api.ErrArg)
		}
	})
}

func TestFieldsLoadAndStore(t *testing.T) {
	h := mixed(t)
	want := map[int][]int{1: {100}, 21: {1, 2}, 61: nil, 5: {61}, 25: {0, 99, 3}}
	for field := range 15 {
		want[61] = append(want[61], field+30)
	}
	for a, l := range want {
		for field, v := range l {
			does(t, h.Store(a, field, v))
		}
	}
	for a, l := range want {
		has(t, h, a, l...)
	}
	was := now(h)
	does(t, h.Store(61, 14, 0), h.Store(61, 0, 1))
	want[61][14], want[61][0] = 0, 1
	for a, l := range want {
		has(t, h, a, l...)
	}
	holds(t, h, was)
	does(t, h.Bear(25, 1))
	has(t, h, 25, 0, 99, 3)
}

func TestFieldsOfNone(t *testing.T) {
	h := four(t)
	bears(t, h, 41, 0, 0)
	has(t, h, 41)
	for _, field := range []int{math.MinInt, -1, 0, 1, 6, 7, math.MaxInt} {
		if v, e := h.Load(41, field); v != 0 || e != api.ErrField {
			t.Errorf("Load(41, %d): %d, %d", field, v, e)
		}
		is(t, "Store into no field", h.Store(41, field, 0), api.ErrField)
	}
}

func TestFieldsRefuse(t *testing.T) {
	h := mixed(t)
	does(t, h.Store(21, 1, 21), h.Store(25, 2, 3))
	unchanged(t, h, func() {
		for _, v := range []int{0, 1, 100, -1, 101} {
			for _, field := range []int{math.MinInt, -1, 0, 1, 2, 15, math.MaxInt} {
				for _, a := range append(noSlots(), 3, 41, 7, 29, 49) {
					refuses(t, h, a, field, v, api.ErrArg)
				}
				refuses(t, h, 0, field, v, api.ErrNil)
			}
			for a, n := range map[int]int{1: 1, 21: 2, 61: 15, 5: 1, 25: 3} {
				for _, field := range []int{math.MinInt, -a - 1, -2, -1, n, n + 1, 16, 1 << 32, math.MaxInt} {
					refuses(t, h, a, field, v, api.ErrField)
				}
			}
		}
		for _, v := range []int{math.MinInt, -1, 101, 1 << 20, 1 << 32, math.MaxInt} {
			for _, a := range []int{1, 21, 61, 5, 25} {
				is(t, "Store of no address", h.Store(a, 0, v), api.ErrRange)
			}
		}
	})
}

// refuses has Load and Store, and Fields where the field isn't what is wrong, tell an error.
func refuses(t *testing.T, h *heap.Heap, a, field, v int, want api.Errno) {
	t.Helper()
	if got, e := h.Load(a, field); got != 0 || e != want {
		t.Errorf("Load(%d, %d): %d, %d; want %d", a, field, got, e, want)
	}
	if e := h.Store(a, field, v); e != want {
		t.Errorf("Store(%d, %d, %d): %d; want %d", a, field, v, e, want)
	}
	if n, e := h.Fields(a); want != api.ErrField && (n != 0 || e != want) {
		t.Errorf("Fields(%d): %d, %d; want %d", a, n, e, want)
	}
}

func TestStoreOfAnyAddress(t *testing.T) {
	h := mixed(t)
	for v := range 101 { // of objects, of what is none, and 0
		does(t, h.Store(1, 0, v))
		has(t, h, 1, v)
	}
}

func TestPaint(t *testing.T) {
	h := mixed(t)
	was := now(h)
	colors := map[int]int{1: 0, 21: 1, 61: 0}
	for i, p := range [][2]int{{1, 1}, {1, 1}, {21, 1}, {21, 0}, {61, 0}, {61, 1}, {1, 0}, {1, 0}, {21, 0}} {
		a, color := p[0], p[1]
		if fresh, e := h.Paint(a, color); fresh != (colors[a] != color) || e != api.OK {
			t.Errorf("%d: Paint(%d, %d): %v, %d", i, a, color, fresh, e)
		}
		colors[a] = color
		for a, color := range colors {
			colored(t, h, a, color)
		}
	}
	holds(t, h, was)
}

func TestColorsRefuse(t *testing.T) {
	h := mixed(t)
	unchanged(t, h, func() {
		for _, a := range append(noObjects(), 0) {
			if c, e := h.Color(a); c != 0 || e != api.ErrArg {
				t.Errorf("Color(%d): %d, %d", a, c, e)
			}
			for _, color := range append(noColors(), 0, 1) {
				paintsNot(t, h, a, color)
			}
		}
		for _, a := range []int{1, 21, 61} {
			for _, color := range noColors() {
				paintsNot(t, h, a, color)
			}
		}
	})
	does(t, h.Free(21))
	if c, e := h.Color(21); c != 0 || e != api.ErrArg {
		t.Errorf("Color of what is freed: %d, %d", c, e)
	}
}

// paintsNot paints what can't be painted so.
func paintsNot(t *testing.T, h *heap.Heap, a, color int) {
	t.Helper()
	if fresh, e := h.Paint(a, color); fresh || e != api.ErrArg {
		t.Errorf("Paint(%d, %d): %v, %d", a, color, fresh, e)
	}
}

func TestCells(t *testing.T) {
	h := mixed(t)
	was := now(h)
	want := [3]int{}
	for _, p := range [][2]int{{0, 1}, {2, 100}, {1, 2}, {2, 0}, {0, 0}, {0, 99}} {
		i, v := p[0], p[1]
		does(t, h.SetCell(i, v))
		want[i] = v
		for i, w := range want {
			if v, e := h.Cell(i); v != w || e != api.OK {
				t.Errorf("Cell(%d): %d, %d; want %d", i, v, e, w)
			}
		}
	}
	holds(t, h, was)
}

func TestCellsRefuse(t *testing.T) {
	h := mixed(t)
	does(t, h.SetCell(0, 1), h.SetCell(2, 100))
	unchanged(t, h, func() {
		for _, i := range []int{math.MinInt, -1, 3, 4, 64, 1 << 32, math.MaxInt} {
			if v, e := h.Cell(i); v != 0 || e != api.ErrCell {
				t.Errorf("Cell(%d): %d, %d", i, v, e)
			}
			for _, v := range []int{-1, 0, 1, 101} {
				is(t, "SetCell of no cell", h.SetCell(i, v), api.ErrCell)
			}
		}
		for _, v := range []int{math.MinInt, -1, 101, 1 << 20, 1 << 32, math.MaxInt} {
			for i := range 3 {
				is(t, "SetCell of no address", h.SetCell(i, v), api.ErrRange)
			}
		}
	})
}

func TestWithoutCells(t *testing.T) {
	h, e := heap.New(sized(1, 16, 0))
	if e != api.OK {
		t.Fatal("New:", e)
	}
	if v, e := h.Cell(0); v != 0 || e != api.ErrCell {
		t.Errorf("Cell(0): %d, %d", v, e)
	}
	is(t, "SetCell", h.SetCell(0, 0), api.ErrCell)
}
