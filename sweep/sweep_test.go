package sweep_test

import (
	"math"
	"slices"
	"testing"

	"dustpan/api"
	"dustpan/heap"
	"dustpan/sweep"
)

// made is a heap of so many blocks of so many words, of which the first ones are assigned to classes, with all slots in hand.
func made(t *testing.T, blocks, words int, classes ...int) *heap.Heap {
	t.Helper()
	h, e := heap.New(api.Config{Blocks: blocks, Words: words, Muts: 1, Regs: 1, Cells: 1, Log: 1, Stack: 1})
	if e != api.OK || h == nil {
		t.Fatalf("heap.New(%d, %d): %v, %d", blocks, words, h, e)
	}
	for _, k := range classes {
		if _, e := h.Assign(k); e != api.OK {
			t.Fatalf("Assign(%d): %d", k, e)
		}
	}
	return h
}

// bears makes slots in hand objects of a color, without a field.
func bears(t *testing.T, h *heap.Heap, color int, slots ...int) {
	t.Helper()
	for _, a := range slots {
		if h.Begin(a, 0) != api.OK || h.Bear(a, color) != api.OK {
			t.Fatalf("no object of %d at %d", color, a)
		}
	}
}

// frees makes slots in hand free.
func frees(t *testing.T, h *heap.Heap, slots ...int) {
	t.Helper()
	for _, a := range slots {
		if e := h.Put(a); e != api.OK {
			t.Fatalf("Put(%d): %d", a, e)
		}
	}
}

// some is a heap with blocks of the classes 1, 3 and 1, each slot of which is something, and two blocks that aren't assigned.
//
// Block 0 (1, 5, 9, 13, 17): objects of 0, 1, 0; free; in hand. Block 1 (21): an object of 0. Block 2 (41 to 57): objects of 1, 0; in hand, with an object's header; free; an object of 0.
func some(t *testing.T) *heap.Heap {
	t.Helper()
	h := made(t, 5, 20, 1, 3, 1)
	bears(t, h, 0, 1, 9, 21, 45, 57)
	bears(t, h, 1, 5, 41)
	frees(t, h, 13, 53)
	if e := h.Begin(49, 2); e != api.OK {
		t.Fatalf("Begin(49, 2): %d", e)
	}
	return h
}

// noColors are numbers that are no color.
func noColors() []int {
	return []int{math.MinInt, -2, -1, 2, 3, 1 << 32, math.MaxInt}
}

// noBlocks are numbers of no block of some that is assigned.
func noBlocks() []int {
	return []int{math.MinInt, -5, -1, 3, 4, 5, 4096, 1 << 32, math.MaxInt}
}

// holds looks at all objects of a heap, its free slots of class 1, and what is in hand.
func holds(t *testing.T, h *heap.Heap, objects, free, hands []int) {
	t.Helper()
	if got := h.Objects(); !slices.Equal(got, objects) {
		t.Errorf("objects: %v; want %v", got, objects)
	}
	if got := h.Frees(1); !slices.Equal(got, free) {
		t.Errorf("free: %v; want %v", got, free)
	}
	if got := h.Hands(); !slices.Equal(got, hands) {
		t.Errorf("in hand: %v; want %v", got, hands)
	}
}

// untouched looks whether a heap is as some made it.
func untouched(t *testing.T, h *heap.Heap) {
	t.Helper()
	holds(t, h, []int{1, 5, 9, 21, 41, 45, 57}, []int{53, 13}, []int{17, 49})
}

// cursor is a cursor.
func cursor(t *testing.T, h *heap.Heap, b, color int) *sweep.Cursor {
	t.Helper()
	c, e := sweep.New(h, b, color)
	if e != api.OK || c == nil {
		t.Fatalf("New(%d, %d): %v, %d", b, color, c, e)
	}
	return c
}

// at looks at where a cursor is.
func at(t *testing.T, c *sweep.Cursor, block, left int) {
	t.Helper()
	if c.Block() != block || c.Left() != left || c.Done() != (left == 0) {
		t.Fatalf("block %d, left %d, done %v; want block %d, left %d", c.Block(), c.Left(), c.Done(), block, left)
	}
}

// steps takes a step, which frees that slot, or with a 0 none.
func steps(t *testing.T, c *sweep.Cursor, want int) {
	t.Helper()
	if a, ok := c.Step(); a != want || ok != (want != 0) {
		t.Fatalf("Step(): %d, %v; want %d", a, ok, want)
	}
}

// same holds what was freed against what should be.
func same(t *testing.T, what string, got []int, e api.Errno, want ...int) {
	t.Helper()
	if e != api.OK || !slices.Equal(got, want) {
		t.Errorf("%s: %v, %d; want %v", what, got, e, want)
	}
}

// A cursor begins at its block's first slot, and has done nothing yet.
func TestNew(t *testing.T) {
	h := some(t)
	for b, left := range []int{5, 1, 5} {
		for color := range 2 {
			at(t, cursor(t, h, b, color), b, left)
		}
	}
	untouched(t, h)
}

// Without a heap, of no block that is assigned or of no color there is no cursor; Block tells the same.
func TestRefused(t *testing.T) {
	h := some(t)
	refused := func(h *heap.Heap, b, color int, want api.Errno) {
		t.Helper()
		if c, e := sweep.New(h, b, color); c != nil || e != want {
			t.Errorf("New(%d, %d): %v, %d; want %d", b, color, c, e, want)
		}
		if l, e := sweep.Block(h, b, color); len(l) != 0 || e != want {
			t.Errorf("Block(%d, %d): %v, %d; want %d", b, color, l, e, want)
		}
	}
	for _, b := range noBlocks() {
		for color := -1; color <= 2; color++ {
			refused(h, b, color, api.ErrArg)
			refused(nil, b, color, api.ErrState)
		}
	}
	for _, color := range noColors() {
		for b := range 3 {
			refused(h, b, color, api.ErrArg)
			refused(nil, b, color, api.ErrState)
		}
	}
	refused(nil, 0, 0, api.ErrState)
	untouched(t, h)
}

// All refuses no heap, and no color, of a heap without a block as well.
func TestAllRefused(t *testing.T) {
	h, none := some(t), made(t, 2, 16)
	for _, color := range noColors() {
		if l, e := sweep.All(h, color); len(l) != 0 || e != api.ErrArg {
			t.Errorf("All(%d): %v, %d", color, l, e)
		}
		if _, e := sweep.All(none, color); e != api.ErrArg {
			t.Errorf("All(%d) without a block: %d", color, e)
		}
		if _, e := sweep.All(nil, color); e != api.ErrState {
			t.Errorf("All(nil, %d): %d", color, e)
		}
	}
	for color := range 2 {
		if l, e := sweep.All(nil, color); len(l) != 0 || e != api.ErrState {
			t.Errorf("All(nil, %d): %v, %d", color, l, e)
		}
	}
	untouched(t, h)
}

// Each step is one slot's turn: what hasn't the color is freed, all else stays; behind the last one nothing is done.
func TestStep(t *testing.T) {
	h := some(t)
	c := cursor(t, h, 0, 1)
	for i, want := range []int{1, 0, 9, 0, 0} {
		at(t, c, 0, 5-i)
		steps(t, c, want)
		if want != 0 && (h.Is(want) || h.Frees(1)[0] != want) {
			t.Errorf("%d was freed, but isn't free", want)
		}
	}
	for range 3 {
		at(t, c, 0, 0)
		steps(t, c, 0)
	}
	holds(t, h, []int{5, 21, 41, 45, 57}, []int{9, 1, 53, 13}, []int{17, 49})
	if color, _ := h.Color(5); color != 1 {
		t.Errorf("color of what stays: %d", color)
	}
}

// By the color 0 it frees the objects of the color 1.
func TestStepByZero(t *testing.T) {
	h := some(t)
	c := cursor(t, h, 2, 0)
	for _, want := range []int{41, 0, 0, 0, 0} {
		steps(t, c, want)
	}
	at(t, c, 2, 0)
	holds(t, h, []int{1, 5, 9, 21, 45, 57}, []int{41, 53, 13}, []int{17, 49})
}

// A slot's turn goes by what it is then, not by what it was when the cursor was made; behind its turn it may be anything.
func TestMeanwhile(t *testing.T) {
	h := some(t)
	c := cursor(t, h, 0, 1)
	steps(t, c, 1)
	if a, e := h.Take(1); a != 1 || e != api.OK {
		t.Fatalf("Take(1): %d, %d", a, e)
	}
	bears(t, h, 0, 1)  // behind its turn
	h.Paint(5, 0)      // ahead of it, each of them
	h.Paint(9, 1)      //
	bears(t, h, 0, 17) //
	for _, want := range []int{5, 0, 0, 17} {
		steps(t, c, want)
	}
	holds(t, h, []int{1, 9, 21, 41, 45, 57}, []int{17, 5, 53, 13}, []int{49})
}

// Two cursors of one block have each their own turns.
func TestTwo(t *testing.T) {
	h := some(t)
	c, d := cursor(t, h, 0, 1), cursor(t, h, 0, 0)
	steps(t, c, 1)
	steps(t, d, 0) // it is free by now
	steps(t, d, 5)
	at(t, c, 0, 4)
	at(t, d, 0, 3)
	steps(t, c, 0)
	steps(t, c, 9)
	steps(t, d, 0)
	at(t, c, 0, 2)
	at(t, d, 0, 2)
}

// A nil cursor has nothing left.
func TestNil(t *testing.T) {
	var c *sweep.Cursor
	at(t, c, 0, 0)
	steps(t, c, 0)
}

// Block sweeps one block, and tells what it freed, rising.
func TestBlock(t *testing.T) {
	h := some(t)
	l, e := sweep.Block(h, 2, 1)
	same(t, "Block(2, 1)", l, e, 45, 57)
	holds(t, h, []int{1, 5, 9, 21, 41}, []int{57, 45, 53, 13}, []int{17, 49})
	l, e = sweep.Block(h, 1, 0)
	same(t, "Block(1, 0)", l, e)
	l, e = sweep.Block(h, 1, 1)
	same(t, "Block(1, 1)", l, e, 21)
	if got := h.Frees(3); !slices.Equal(got, []int{21}) {
		t.Errorf("free of class 3: %v", got)
	}
	l, e = sweep.Block(h, 1, 1)
	same(t, "Block(1, 1) again", l, e)
}

// Block and a cursor's steps tell the same, and leave the same.
func TestSame(t *testing.T) {
	for b := range 3 {
		for color := range 2 {
			g, h := some(t), some(t)
			want, e := sweep.Block(g, b, color)
			var got []int
			for c := cursor(t, h, b, color); !c.Done(); {
				if a, ok := c.Step(); ok {
					got = append(got, a)
				}
			}
			same(t, "steps", got, e, want...)
			holds(t, h, g.Objects(), g.Frees(1), g.Hands())
		}
	}
}

// All sweeps all blocks that are assigned, rising.
func TestAll(t *testing.T) {
	h := some(t)
	l, e := sweep.All(h, 1)
	same(t, "All(1)", l, e, 1, 9, 21, 45, 57)
	holds(t, h, []int{5, 41}, []int{57, 45, 9, 1, 53, 13}, []int{17, 49})
	l, e = sweep.All(h, 1)
	same(t, "All(1) again", l, e)
	l, e = sweep.All(h, 0)
	same(t, "All(0)", l, e, 5, 41)
	l, e = sweep.All(made(t, 2, 16), 0)
	same(t, "All without a block", l, e)
}

// All of all blocks that there may be, each of them assigned.
func TestAllGreat(t *testing.T) {
	h := made(t, api.MaxBlocks, api.MinWords)
	var want []int
	for i := range api.MaxBlocks {
		a, e := h.Make(15, i%2)
		if e != api.OK {
			t.Fatalf("Make: %d", e)
		}
		if i%2 == 1 {
			want = append(want, a)
		}
	}
	l, e := sweep.All(h, 0)
	same(t, "All(0)", l, e, want...)
	if n := len(h.Objects()); n != api.MaxBlocks/2 {
		t.Errorf("%d objects", n)
	}
}

// The chapter's example.
func TestExample(t *testing.T) {
	h := made(t, 1, 16)
	a, _ := h.Make(1, 0)
	b, _ := h.Make(1, 1)
	l, e := sweep.Block(h, 0, 1)
	same(t, "Block(0, 1)", l, e, a)
	if h.Is(a) || !h.Is(b) {
		t.Error("not the first one")
	}
}

// What is answered is the caller's own.
func TestOwn(t *testing.T) {
	h := some(t)
	l, _ := sweep.All(h, 1)
	for i := range l {
		l[i] = -1
	}
	holds(t, h, []int{5, 41}, []int{57, 45, 9, 1, 53, 13}, []int{17, 49})
}

// random is a heap with whatever slots, and what its objects' colors are.
func random(t *testing.T, seed uint32) (*heap.Heap, map[int]int) {
	t.Helper()
	x := seed*2654435761 + 1
	roll := func(n int) int {
		x = x*1664525 + 1013904223
		return int(x>>8) % n
	}
	h, colors := made(t, 8, 16+roll(40)), map[int]int{}
	for range roll(9) {
		h.Assign(roll(4))
	}
	for _, a := range h.Hands() {
		switch is := roll(5); is {
		case 0, 1:
			bears(t, h, is, a)
			colors[a] = is
		case 2:
			frees(t, h, a)
		case 3:
			h.Begin(a, 1)
		}
	}
	return h, colors
}

// Behind All just the objects of its color are there, and what was free or in hand is so still.
func TestBehindAll(t *testing.T) {
	for seed := range uint32(300) {
		for color := range 2 {
			h, colors := random(t, seed)
			hands := h.Hands()
			var stay, goes []int
			for _, a := range h.Objects() {
				if colors[a] == color {
					stay = append(stay, a)
				} else {
					goes = append(goes, a)
				}
			}
			var free []int
			for k := range api.Classes {
				free = append(free, h.Frees(k)...)
			}
			l, e := sweep.All(h, color)
			same(t, "All", l, e, goes...)
			if got := h.Objects(); !slices.Equal(got, stay) {
				t.Fatalf("seed %d: objects %v; want %v", seed, got, stay)
			}
			if got := h.Hands(); !slices.Equal(got, hands) {
				t.Fatalf("seed %d: in hand %v; want %v", seed, got, hands)
			}
			var now []int
			for k := range api.Classes {
				now = append(now, h.Frees(k)...)
			}
			want := append(free, goes...)
			slices.Sort(now)
			slices.Sort(want)
			if !slices.Equal(now, want) {
				t.Fatalf("seed %d: free %v; want %v", seed, now, want)
			}
		}
	}
}
