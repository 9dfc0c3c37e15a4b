package trace_test

import (
	"math"
	"slices"
	"testing"

	"dustpan/api"
	"dustpan/heap"
	"dustpan/trace"
)

// made is a heap of so many blocks of so many words.
func made(t *testing.T, blocks, words int) *heap.Heap {
	t.Helper()
	h, e := heap.New(api.Config{Blocks: blocks, Words: words, Muts: 1, Regs: 1, Cells: 1, Log: 1, Stack: 1})
	if e != api.OK || h == nil {
		t.Fatalf("heap.New(%d, %d): %v, %d", blocks, words, h, e)
	}
	return h
}

// makes makes an object of the color 0, at that address.
func makes(t *testing.T, h *heap.Heap, fields, want int) {
	t.Helper()
	if a, e := h.Make(fields, 0); e != api.OK || a != want {
		t.Fatalf("Make(%d): %d, %d; want %d", fields, a, e, want)
	}
}

// lays lays an object's fields, from the first one on.
func lays(t *testing.T, h *heap.Heap, a int, values ...int) {
	t.Helper()
	for field, v := range values {
		if e := h.Store(a, field, v); e != api.OK {
			t.Fatalf("Store(%d, %d, %d): %d", a, field, v, e)
		}
	}
}

// some is a heap of 4 blocks of 16 words, the last one of which isn't assigned.
//
// Objects: 1 to 5, 5 to 9, 9 to 1 and 9; 13 to 9, with fields that are no objects, too; 17 to nothing, 19 to 13, 33 to 19 and 33; in hand, with a field to 1: 21; free: 23.
func some(t *testing.T) *heap.Heap {
	t.Helper()
	h := made(t, 4, 16)
	for _, a := range []int{1, 5, 9, 13} {
		makes(t, h, 3, a)
	}
	for _, a := range []int{17, 19, 21, 23} {
		makes(t, h, 1, a)
	}
	makes(t, h, 15, 33)
	for _, a := range []int{23, 21} {
		if e := h.Free(a); e != api.OK {
			t.Fatalf("Free(%d): %d", a, e)
		}
	}
	if a, e := h.Take(0); a != 21 || e != api.OK || h.Begin(21, 1) != api.OK {
		t.Fatalf("21 isn't in hand: %d, %d", a, e)
	}
	lays(t, h, 21, 1)
	lays(t, h, 1, 0, 0, 5)
	lays(t, h, 5, 9)
	lays(t, h, 9, 1, 0, 9)
	lays(t, h, 13, 21, 9, 23)
	lays(t, h, 19, 13)
	lays(t, h, 33, 0, 2, 19, 0, 33, 64, 49, 0, 34, 16, 0, 0, 0, 0, 17)
	return h
}

// noObjects are addresses of some at which no object is.
func noObjects() []int {
	return []int{
		math.MinInt, -17, -1, 0, // no address
		2, 3, 4, 6, 16, 18, 34, 48, // within an object
		21,     // in hand
		23, 25, // free
		49, 50, 64, // a block that isn't assigned
		65, 66, 1<<20 + 1, 1<<21 + 1, 1<<32 + 1, math.MaxInt,
	}
}

// all are the objects of some.
func all() []int {
	return []int{1, 5, 9, 13, 17, 19, 33}
}

// edge is a field that isn't 0.
type edge struct{ field, v int }

// edges is an object's edges.
func edges(h *heap.Heap, a int) []edge {
	var l []edge
	for field, v := range trace.Edges(h, a) {
		l = append(l, edge{field, v})
	}
	return l
}

// words is all that a heap tells of its slots, and of their fields and colors.
func words(h *heap.Heap) []int {
	var l []int
	for k := range api.Classes {
		l = append(append(l, h.Frees(k)...), -1)
	}
	l = append(append(l, h.Hands()...), -1)
	for a := range h.Config().Blocks*h.Config().Words + 1 {
		n, _ := h.Fields(a)
		c, e := h.Color(a)
		l = append(l, n, c, int(e))
		for field := range n {
			v, _ := h.Load(a, field)
			l = append(l, v)
		}
	}
	return l
}

// unchanged does something, and looks at whether that has changed the heap.
func unchanged(t *testing.T, h *heap.Heap, do func()) {
	t.Helper()
	was := words(h)
	do()
	if l := words(h); !slices.Equal(l, was) {
		t.Errorf("the heap is %v; was %v", l, was)
	}
}

// same holds a list against another one.
func same(t *testing.T, what string, got []int, want ...int) {
	t.Helper()
	if !slices.Equal(got, want) {
		t.Errorf("%s: %v; want %v", what, got, want)
	}
}

// others are the objects of a heap that aren't among some.
func others(h *heap.Heap, some []int) []int {
	return slices.DeleteFunc(h.Objects(), func(a int) bool { return slices.Contains(some, a) })
}

// The chapter's example.
func TestExample(t *testing.T) {
	h := made(t, 2, 16)
	makes(t, h, 1, 1)
	makes(t, h, 1, 3)
	lays(t, h, 1, 3)
	same(t, "Reach(1)", trace.Reach(h, 1), 1, 3)
	same(t, "Garbage(3)", trace.Garbage(h, 3), 1)
}

// Edges are the fields that aren't 0, rising, whatever they have.
func TestEdges(t *testing.T) {
	h := some(t)
	unchanged(t, h, func() {
		for _, c := range []struct {
			a    int
			want []edge
		}{
			{1, []edge{{2, 5}}},
			{5, []edge{{0, 9}}},
			{9, []edge{{0, 1}, {2, 9}}},
			{13, []edge{{0, 21}, {1, 9}, {2, 23}}},
			{17, nil},
			{33, []edge{{1, 2}, {2, 19}, {4, 33}, {5, 64}, {6, 49}, {8, 34}, {9, 16}, {14, 17}}},
		} {
			for range 2 {
				if got := edges(h, c.a); !slices.Equal(got, c.want) {
					t.Errorf("Edges(%d): %v; want %v", c.a, got, c.want)
				}
			}
		}
	})
}

// What is no object has no edges: a slot in hand hasn't, either, though it has fields; nor has an object without a field.
func TestEdgesOfNothing(t *testing.T) {
	h := some(t)
	for _, a := range noObjects() {
		if got := edges(h, a); len(got) != 0 {
			t.Errorf("Edges(%d): %v", a, got)
		}
	}
	for _, a := range append(all(), noObjects()...) {
		if got := edges(nil, a); len(got) != 0 {
			t.Errorf("Edges(nil, %d): %v", a, got)
		}
	}
	g := made(t, 1, 16)
	makes(t, g, 0, 1)
	if got := edges(g, 1); len(got) != 0 {
		t.Errorf("Edges without fields: %v", got)
	}
}

// Edges may be left anywhere, ranged over again, and one within the other.
func TestEdgesAreLeft(t *testing.T) {
	h := some(t)
	its := trace.Edges(h, 33)
	want := edges(h, 33)
	for most := 1; most <= len(want); most++ {
		var got []edge
		for field, v := range its {
			if got = append(got, edge{field, v}); len(got) == most {
				break
			}
		}
		if !slices.Equal(got, want[:most]) {
			t.Errorf("left behind %d: %v", most, got)
		}
	}
	pairs := 0
	for range its {
		for range its {
			pairs++
		}
	}
	if pairs != len(want)*len(want) {
		t.Errorf("one in the other: %d", pairs)
	}
}

// Edges are those that there are when they are ranged over, whatever is laid meanwhile.
func TestEdgesMeanwhile(t *testing.T) {
	h := some(t)
	its := trace.Edges(h, 9)
	lays(t, h, 9, 5, 0, 13)
	var got []edge
	for field, v := range its {
		got = append(got, edge{field, v})
		lays(t, h, 9, 0, 17, 0)
	}
	if !slices.Equal(got, []edge{{0, 5}, {2, 13}}) {
		t.Errorf("first: %v", got)
	}
	got = nil
	for field, v := range its {
		got = append(got, edge{field, v})
		h.Free(9)
	}
	if !slices.Equal(got, []edge{{1, 17}}) {
		t.Errorf("again: %v", got)
	}
	for range its {
		t.Error("an object that was freed has edges")
	}
}

// What is reached, and what isn't, from roots of some.
func TestReach(t *testing.T) {
	h := some(t)
	unchanged(t, h, func() {
		for _, c := range []struct{ roots, want []int }{
			{nil, nil},
			{[]int{1}, []int{1, 5, 9}},
			{[]int{5}, []int{1, 5, 9}},
			{[]int{9}, []int{1, 5, 9}},
			{[]int{13}, []int{1, 5, 9, 13}},
			{[]int{17}, []int{17}},
			{[]int{19}, []int{1, 5, 9, 13, 19}},
			{[]int{33}, all()},
			{[]int{17, 9}, []int{1, 5, 9, 17}},
			{[]int{33, 19, 17, 13}, all()},
			{[]int{17, 17, 17}, []int{17}},
			{[]int{0, 21, 17, 23, -1, 49, math.MaxInt}, []int{17}},
			{noObjects(), nil},
			{append(noObjects(), 1, 1), []int{1, 5, 9}},
		} {
			roots := slices.Clone(c.roots)
			same(t, "Reach", trace.Reach(h, c.roots...), c.want...)
			same(t, "Garbage", trace.Garbage(h, c.roots...), others(h, c.want)...)
			same(t, "roots", c.roots, roots...)
		}
	})
}

// What is reached only through a slot in hand, or one that is free, isn't reached.
func TestReachThroughNoObject(t *testing.T) {
	h := made(t, 1, 16)
	for _, a := range []int{1, 3, 5} {
		makes(t, h, 1, a)
	}
	lays(t, h, 1, 3)
	lays(t, h, 3, 5)
	same(t, "Reach(1)", trace.Reach(h, 1), 1, 3, 5)
	h.Free(3)
	same(t, "Reach(1), 3 free", trace.Reach(h, 1), 1)
	same(t, "Garbage(1), 3 free", trace.Garbage(h, 1), 5)
	h.Take(0)
	h.Begin(3, 1)
	lays(t, h, 3, 5)
	same(t, "Reach(1), 3 in hand", trace.Reach(h, 1), 1)
	same(t, "Reach(3), 3 in hand", trace.Reach(h, 3))
	h.Bear(3, 1)
	same(t, "Reach(1), 3 born", trace.Reach(h, 1), 1, 3, 5)
}

// Of no heap, and of one without objects, nothing is reached, and nothing is garbage.
func TestReachOfNothing(t *testing.T) {
	for _, h := range []*heap.Heap{nil, made(t, 2, 16)} {
		for _, roots := range [][]int{nil, {0}, {1, 2}, all(), noObjects()} {
			same(t, "Reach", trace.Reach(h, roots...))
			same(t, "Garbage", trace.Garbage(h, roots...))
			for _, a := range roots {
				if trace.Reaches(h, a, a) {
					t.Errorf("Reaches(%d)", a)
				}
			}
		}
	}
}

// One object is reached from another one, if it is among what that one reaches; what is no object neither is nor reaches any.
func TestReaches(t *testing.T) {
	h := some(t)
	its := append(all(), noObjects()...)
	unchanged(t, h, func() {
		for _, from := range its {
			reached := trace.Reach(h, from)
			for _, to := range its {
				if got := trace.Reaches(h, from, to); got != slices.Contains(reached, to) {
					t.Errorf("Reaches(%d, %d): %v", from, to, got)
				}
			}
		}
	})
	if !trace.Reaches(h, 17, 17) || !trace.Reaches(h, 19, 1) || trace.Reaches(h, 1, 19) || trace.Reaches(h, 13, 21) || trace.Reaches(h, 21, 1) || trace.Reaches(h, 21, 21) {
		t.Error("not as it should be")
	}
}

// What is answered is new memory.
func TestOwn(t *testing.T) {
	h := some(t)
	r, g := trace.Reach(h, 1), trace.Garbage(h, 1)
	s, f := trace.Reach(h, 1), trace.Garbage(h, 1)
	clear(r[:cap(r)])
	clear(g[:cap(g)])
	same(t, "Reach", s, 1, 5, 9)
	same(t, "Garbage", f, 13, 17, 19, 33)
	same(t, "Reach anew", trace.Reach(h, 1), 1, 5, 9)
	same(t, "Garbage anew", trace.Garbage(h, 1), 13, 17, 19, 33)
}

// A chain of all objects that there may be is reached whole, from its one end, and from its other one alone.
func TestTheGreatestChain(t *testing.T) {
	h := made(t, api.MaxBlocks, api.MaxWords)
	most := api.MaxBlocks * api.MaxWords / 2
	for i := range most {
		a, e := h.Make(1, 0)
		if e != api.OK {
			t.Fatalf("Make %d: %d", i, e)
		}
		lays(t, h, a, max(a-2, 0))
	}
	last := 2*most - 1
	l := trace.Reach(h, last)
	if len(l) != most || l[0] != 1 || l[most-1] != last {
		t.Errorf("Reach: %d", len(l))
	}
	same(t, "Reach(1)", trace.Reach(h, 1), 1)
	if n := len(trace.Garbage(h, last-2)); n != 1 {
		t.Errorf("Garbage: %d", n)
	}
	if !trace.Reaches(h, last, 1) || trace.Reaches(h, 1, last) {
		t.Error("Reaches")
	}
	if n, again, e := trace.Mark(h, 1, 1, last); n != most || again != 0 || e != api.OK {
		t.Errorf("Mark: %d, %d, %d", n, again, e)
	}
}
