package ghost_test

import (
	"math"
	"slices"
	"testing"

	"dustpan/api"
	"dustpan/ghost"
	"dustpan/heap"
	"dustpan/mutator"
	"dustpan/op"
	"dustpan/world"
)

// small is a config of 2 mutators of 3 registers, 3 cells, and 4 blocks of 16 words.
func small() api.Config {
	return api.Config{Blocks: 4, Words: 16, Muts: 2, Regs: 3, Cells: 3, Log: 2, Stack: 4}
}

// lines is the operations of lines.
func lines(t *testing.T, l ...string) []api.Op {
	t.Helper()
	var out []api.Op
	for _, line := range l {
		o, e := op.Parse(line)
		if e != api.OK {
			t.Fatalf("no line: %q", line)
		}
		out = append(out, o)
	}
	return out
}

// made is a world.
func made(t *testing.T, c api.Config, programs ...[]api.Op) *world.World {
	t.Helper()
	w, e := world.New(c, programs...)
	if e != api.OK || w == nil {
		t.Fatalf("New(%v): %v, %d", c, w, e)
	}
	return w
}

// picks does picks, none of which is refused.
func picks(t *testing.T, w *world.World, l ...int) {
	t.Helper()
	if n, e := w.Run(l...); n != len(l) || e != api.OK {
		t.Fatalf("Run of %d picks: %d, %d", len(l), n, e)
	}
}

// does picks a mutator until so many of its operations have ended.
func does(t *testing.T, w *world.World, id, ended int) {
	t.Helper()
	for len(w.Mut(id).Results()) < ended {
		picks(t, w, id)
	}
}

// collects picks the collector, and mutators as long as they owe an answer, so that none begins an operation.
func collects(t *testing.T, w *world.World) {
	t.Helper()
	picks(t, w, w.Config().Muts)
	for id := range w.Config().Muts {
		for !w.Shared().Board.Answered(id) {
			picks(t, w, id)
		}
	}
}

// comes has a cycle come to a phase, with mutators that do nothing but answer.
func comes(t *testing.T, w *world.World, phase int) {
	t.Helper()
	for w.Coll().Phase() != phase {
		collects(t, w)
	}
}

// same holds what there is, one by one, against what there should be.
func same(t *testing.T, what string, got []int, want ...int) {
	t.Helper()
	if !slices.Equal(got, want) {
		t.Fatalf("%s: %v; want %v", what, got, want)
	}
}

// is looks at whether calls that lay something succeed.
func is(t *testing.T, codes ...api.Errno) {
	t.Helper()
	for i, e := range codes {
		if e != api.OK {
			t.Fatalf("the call %d: %d", i, e)
		}
	}
}

// sound looks at whether a world is.
func sound(t *testing.T, w *world.World) {
	t.Helper()
	if f, ok := ghost.Sound(w); !ok || f != (ghost.Finding{}) {
		t.Fatalf("not sound: %v, %v", f, ok)
	}
}

// wrong looks at whether a world has just that that is wrong.
func wrong(t *testing.T, w *world.World, kind, at, what int) {
	t.Helper()
	want := ghost.Finding{Kind: kind, At: at, What: what}
	if f, ok := ghost.Sound(w); ok || f != want {
		t.Fatalf("Sound: %v, %v; want %v", f, ok, want)
	}
}

// row is a world of objects that nothing reaches, 1, 5, 9 and so on, as many as that, each of 3 fields.
func row(t *testing.T, n int) (*world.World, *heap.Heap) {
	t.Helper()
	w := made(t, small())
	h := w.Shared().Heap
	for i := range n {
		if a, e := h.Make(3, 0); a != 1+4*i || e != api.OK {
			t.Fatal("Make:", a, e)
		}
	}
	return w, h
}

// The chapter's example: a new world is sound, and has no garbage.
func TestNew(t *testing.T) {
	w := made(t, small(), lines(t, "alloc 0 1"))
	sound(t, w)
	same(t, "Garbage", ghost.Garbage(w))
	same(t, "Reach", ghost.Reach(w))
	same(t, "Roots", ghost.Roots(w))
	if !ghost.Painted(w) {
		t.Error("not painted")
	}
}

func TestNil(t *testing.T) {
	same(t, "Roots", ghost.Roots(nil))
	same(t, "Reach", ghost.Reach(nil))
	same(t, "Garbage", ghost.Garbage(nil))
	sound(t, nil)
	if !ghost.Painted(nil) {
		t.Error("not painted")
	}
}

// Roots are what cells and all mutators' registers have, rising, each once, without 0.
func TestRoots(t *testing.T) {
	c := small()
	c.Muts = 3
	w := made(t, c,
		lines(t, "alloc 0 1", "move 2 0"),             // 1
		lines(t, "alloc 1 1", "set 2 1"),              // 3
		lines(t, "alloc 0 1", "alloc 2 1", "set 0 2")) // 5 and 7
	for id, ended := range []int{2, 2, 3} {
		does(t, w, id, ended)
	}
	same(t, "Roots", ghost.Roots(w), 1, 3, 5, 7)
	h := w.Shared().Heap
	is(t, h.SetCell(1, 2))
	same(t, "Roots with what is no object", ghost.Roots(w), 1, 2, 3, 5, 7)
	is(t, h.SetCell(0, 64), h.SetCell(1, 3), h.SetCell(2, 0))
	same(t, "Roots of other cells", ghost.Roots(w), 1, 3, 5, 7, 64)
}

// Each cell and each register is a root, the last ones too.
func TestEveryRoot(t *testing.T) {
	c := api.Config{Blocks: 1, Words: 16, Muts: api.MaxMuts, Regs: api.MaxRegs, Cells: api.MaxCells, Log: 1, Stack: 1}
	for i := range c.Cells {
		w := made(t, c)
		is(t, w.Shared().Heap.SetCell(i, 9))
		same(t, "Roots", ghost.Roots(w), 9)
	}
	for id := range c.Muts {
		for r := range c.Regs {
			programs := make([][]api.Op, c.Muts)
			programs[id] = []api.Op{{Kind: api.Alloc, A: r}}
			w := made(t, c, programs...)
			does(t, w, id, 1)
			same(t, "Roots", ghost.Roots(w), 1)
		}
	}
}

// What a mutator holds in the midst of a store is a root, though no cell, field or register has it any more.
func TestHeld(t *testing.T) {
	w := made(t, small(),
		lines(t, "alloc 0 1", "alloc 1 0", "store 0 0 1", "set 0 0", "drop 0", "drop 1", "set 0 0"),
		lines(t, "set 0 0"))
	does(t, w, 0, 6)
	picks(t, w, 3)
	comes(t, w, api.Sync)
	for w.Mut(0).Held() == 0 {
		picks(t, w, 0)
	}
	does(t, w, 1, 1)
	if v, _ := w.Shared().Heap.Cell(0); v != 0 || w.Mut(0).Held() != 1 {
		t.Fatal("the cell has", v)
	}
	same(t, "Roots", ghost.Roots(w), 1)
	same(t, "Reach", ghost.Reach(w), 1, 3)
	same(t, "Garbage", ghost.Garbage(w))
	sound(t, w)
	does(t, w, 0, 7)
	same(t, "Roots behind the store", ghost.Roots(w))
	same(t, "Garbage behind the store", ghost.Garbage(w), 1, 3)
}

// What is reached is so by fields of fields, loops too; the other objects are garbage, and free slots and those in hand are neither.
func TestReachAndGarbage(t *testing.T) {
	w, h := row(t, 8)
	is(t, h.Store(1, 0, 5), h.Store(5, 2, 9), h.Store(9, 1, 1), h.Store(13, 0, 1), h.Store(17, 0, 21), h.Store(21, 0, 17), h.Store(25, 1, 25))
	same(t, "Reach of nothing", ghost.Reach(w))
	same(t, "all garbage", ghost.Garbage(w), 1, 5, 9, 13, 17, 21, 25, 29)
	is(t, h.SetCell(2, 5), h.SetCell(0, 25))
	same(t, "Reach", ghost.Reach(w), 1, 5, 9, 25)
	same(t, "Garbage", ghost.Garbage(w), 13, 17, 21, 29)
	is(t, h.SetCell(0, 21), h.Free(29), h.Free(25))
	h.Take(1)
	same(t, "Reach of others", ghost.Reach(w), 1, 5, 9, 17, 21)
	same(t, "Garbage of others", ghost.Garbage(w), 13)
	sound(t, w)
	is(t, h.SetCell(1, 29), h.Store(9, 2, 25)) // what is no object is not reached, and not garbage
	same(t, "Reach with what is none", ghost.Reach(w), 1, 5, 9, 17, 21)
	same(t, "Garbage with what is none", ghost.Garbage(w), 13)
}

// What a register has is reached, and what it has no more isn't.
func TestReachOfRegisters(t *testing.T) {
	w := made(t, small(), lines(t, "alloc 0 1", "alloc 1 1", "store 0 0 1", "drop 1", "drop 0"), lines(t, "alloc 2 1"))
	does(t, w, 0, 4)
	does(t, w, 1, 1)
	same(t, "Reach", ghost.Reach(w), 1, 3, 5)
	same(t, "Garbage", ghost.Garbage(w))
	does(t, w, 0, 5)
	same(t, "Reach", ghost.Reach(w), 5)
	same(t, "Garbage", ghost.Garbage(w), 1, 3)
	sound(t, w) // garbage is no fault
}

// A root that is no object is told, of several the least one, whoever has it.
func TestRootGone(t *testing.T) {
	w, h := row(t, 5)
	is(t, h.Free(5), h.SetCell(0, 1), h.SetCell(1, 17), h.SetCell(2, 13))
	h.Take(1)
	sound(t, w)
	is(t, h.Free(9)) // 5 is in hand, 9 is free
	for _, a := range []int{2, 4, 5, 9, 12, 18, 21, 32, 33, 64} {
		is(t, h.SetCell(1, a))
		wrong(t, w, ghost.RootGone, a, 0)
	}
	is(t, h.SetCell(0, 64), h.SetCell(1, 9), h.SetCell(2, 34))
	wrong(t, w, ghost.RootGone, 9, 0)
	is(t, h.SetCell(1, 0))
	wrong(t, w, ghost.RootGone, 34, 0)
	is(t, h.SetCell(2, 0))
	wrong(t, w, ghost.RootGone, 64, 0)
	is(t, h.SetCell(0, 0))
	sound(t, w)
}

// A register can have what is no object, and what is held can be none.
func TestRootGoneOfAMutator(t *testing.T) {
	w := made(t, small(), lines(t, "get 0 0"), lines(t, "get 1 0", "set 1 0"))
	h := w.Shared().Heap
	is(t, h.SetCell(0, 6))
	does(t, w, 1, 1)
	is(t, h.SetCell(0, 0))
	wrong(t, w, ghost.RootGone, 6, 0)
	is(t, h.SetCell(0, 7))
	does(t, w, 0, 1)
	is(t, h.SetCell(0, 0))
	wrong(t, w, ghost.RootGone, 6, 0)
	is(t, h.SetCell(1, 3))
	picks(t, w, 3)
	comes(t, w, api.Sync)
	for w.Mut(1).Held() == 0 {
		picks(t, w, 1)
	}
	is(t, h.SetCell(1, 0))
	wrong(t, w, ghost.RootGone, 3, 0)
	does(t, w, 1, 2)
	wrong(t, w, ghost.RootGone, 6, 0)
}

// A field of what is reached that is no object is told: of the least object, the first one. Of garbage it isn't.
func TestFieldGone(t *testing.T) {
	w, h := row(t, 6)
	is(t, h.SetCell(0, 9), h.Store(9, 0, 5), h.Store(5, 2, 17))
	sound(t, w)
	is(t, h.Store(1, 0, 2), h.Store(13, 1, 64), h.Store(21, 2, 33))
	sound(t, w) // nothing reaches these
	for _, v := range []int{2, 6, 20, 25, 33, 64} {
		is(t, h.Store(17, 1, v))
		wrong(t, w, ghost.FieldGone, 17, 1)
	}
	is(t, h.Store(17, 0, 25))
	wrong(t, w, ghost.FieldGone, 17, 0)
	is(t, h.Store(5, 1, 25))
	wrong(t, w, ghost.FieldGone, 5, 1)
	is(t, h.Store(5, 1, 0))
	wrong(t, w, ghost.FieldGone, 17, 0)
	is(t, h.Store(17, 0, 0), h.Store(17, 1, 0), h.Store(17, 2, 64))
	wrong(t, w, ghost.FieldGone, 17, 2)
	is(t, h.Store(5, 2, 0))
	sound(t, w) // 17 is garbage now
	is(t, h.Store(9, 0, 5), h.Free(5))
	wrong(t, w, ghost.FieldGone, 9, 0)
	h.Take(1)
	wrong(t, w, ghost.FieldGone, 9, 0) // also of a slot in hand
}

// Of what is wrong a root is told ahead of a field, whatever their addresses are.
func TestRootAheadOfField(t *testing.T) {
	w, h := row(t, 4)
	is(t, h.SetCell(1, 1), h.Store(1, 0, 3))
	wrong(t, w, ghost.FieldGone, 1, 0)
	is(t, h.SetCell(0, 64))
	wrong(t, w, ghost.RootGone, 64, 0)
	is(t, h.SetCell(0, 13))
	wrong(t, w, ghost.FieldGone, 1, 0)
}

// Slots of every class, free, in hand, or objects, and the last words of blocks, are no fault.
func TestPartsOfAllClasses(t *testing.T) {
	c := api.Config{Blocks: 6, Words: 21, Muts: 1, Regs: 1, Cells: 1, Log: 1, Stack: 1}
	w := made(t, c)
	h := w.Shared().Heap
	for k, fields := range []int{1, 3, 7, 15} {
		if a, e := h.Make(fields, 0); e != api.OK || a != 1+21*k {
			t.Fatal("Make:", a, e)
		}
		sound(t, w)
		h.Take(k)
		sound(t, w)
	}
	h.Assign(0)
	sound(t, w)
	for _, a := range h.Objects() {
		is(t, h.Free(a))
		sound(t, w)
	}
}

// Painted is whether what is reached has the collector's color; what garbage has is of no account.
func TestPainted(t *testing.T) {
	w, h := row(t, 4)
	is(t, h.SetCell(0, 5), h.Store(5, 0, 9))
	if !ghost.Painted(w) {
		t.Error("not painted by the color 0")
	}
	picks(t, w, 3, 2) // now the collector's is 1
	for _, x := range []struct {
		painted []int
		want    bool
	}{
		{nil, false},
		{[]int{1, 13}, false},
		{[]int{5}, false},
		{[]int{9}, false},
		{[]int{5, 9}, true},
		{[]int{1, 5, 9}, true},
		{[]int{1, 5, 9, 13}, true},
		{[]int{1, 5, 13}, false},
	} {
		for _, a := range h.Objects() {
			color := 0
			if slices.Contains(x.painted, a) {
				color = 1
			}
			h.Paint(a, color)
		}
		if ghost.Painted(w) != x.want {
			t.Errorf("Painted with %v: %v", x.painted, !x.want)
		}
	}
	is(t, h.SetCell(0, 0))
	if !ghost.Painted(w) {
		t.Error("not painted, but nothing is reached")
	}
	is(t, h.SetCell(0, 2)) // nor is it from what is no object
	if !ghost.Painted(w) {
		t.Error("not painted, but no object is reached")
	}
}

// tells is events, some of which tell of what was freed.
func tells() []api.Event {
	freed := func(pick, a int) api.Event { return api.Event{Pick: pick, Kind: api.Freed, Value: a} }
	return []api.Event{
		{Pick: 1, Kind: api.Start, Value: 7},
		freed(2, 9),
		{Pick: 3, Kind: api.Did, Value: 5},
		freed(4, 3),
		{Pick: 4, Kind: api.Marked, Value: 1},
		freed(5, 9),
		{Pick: 6, Kind: api.Rested, Value: 1},
		{Pick: 7, Kind: 6, Value: 11},
		{Pick: 7, Value: 13},
		freed(4, 1), // whatever stands ahead of it
		freed(8, 17),
	}
}

func TestFreed(t *testing.T) {
	for from, want := range map[int][]int{
		math.MinInt: {9, 3, 9, 1, 17},
		-1:          {9, 3, 9, 1, 17},
		0:           {9, 3, 9, 1, 17},
		2:           {9, 3, 9, 1, 17},
		3:           {3, 9, 1, 17},
		4:           {3, 9, 1, 17},
		5:           {9, 17},
		6:           {17},
		8:           {17},
		9:           nil,
		math.MaxInt: nil,
	} {
		same(t, "Freed", ghost.Freed(tells(), from), want...)
		same(t, "Freed of none", ghost.Freed(nil, from))
	}
	same(t, "Freed ahead of all", ghost.Freed([]api.Event{{Pick: -5, Kind: api.Freed, Value: -2}}, -5), -2)
}

func TestLeft(t *testing.T) {
	for _, x := range []struct {
		garbage []int
		from    int
		want    []int
	}{
		{nil, 0, nil},
		{[]int{1, 3, 9, 17}, 0, nil},
		{[]int{1, 3, 9, 17}, 5, []int{1, 3}},
		{[]int{17, 3, 9, 1}, 5, []int{3, 1}}, // in their order
		{[]int{1, 3, 9, 17}, 9, []int{1, 3, 9, 17}},
		{[]int{5, 7, 11, 13, 0, -1}, 0, []int{5, 7, 11, 13, 0, -1}}, // told, but not as freed
		{[]int{2, 9, 2, 9, 2}, 0, []int{2, 2, 2}},
		{[]int{3, 9}, math.MaxInt, []int{3, 9}},
		{[]int{3, 8}, math.MinInt, []int{8}},
	} {
		same(t, "Left", ghost.Left(x.garbage, tells(), x.from), x.want...)
		same(t, "Left of no events", ghost.Left(x.garbage, nil, x.from), x.garbage...)
	}
}

// What is handed in is neither changed nor kept, and what is answered is new memory.
func TestNothingIsShared(t *testing.T) {
	room := []int{5, 9, 3, 7, 99}
	garbage, events := room[:4], tells()
	l := ghost.Left(garbage, events, 0)
	same(t, "what was handed in", room, 5, 9, 3, 7, 99)
	if !slices.Equal(events, tells()) {
		t.Error("the events are changed")
	}
	_ = append(l, 1)
	clear(l)
	same(t, "what was handed in", room, 5, 9, 3, 7, 99)
	all := ghost.Left(garbage, nil, 0)
	clear(all)
	same(t, "what was handed in", room, 5, 9, 3, 7, 99)
	w, h := row(t, 3)
	is(t, h.SetCell(0, 5))
	for range 2 {
		for _, one := range [][]int{ghost.Roots(w), ghost.Reach(w)} {
			same(t, "Roots, Reach", one, 5)
			clear(one)
		}
		none := ghost.Garbage(w)
		same(t, "Garbage", none, 1, 9)
		clear(none)
	}
}

// A world whose parts others have taken away can still be looked at.
func TestPartsTaken(t *testing.T) {
	w := made(t, small(), lines(t, "alloc 0 1"))
	does(t, w, 0, 1)
	*w.Shared() = mutator.Shared{}
	same(t, "Roots", ghost.Roots(w), 1)
	same(t, "Reach", ghost.Reach(w))
	same(t, "Garbage", ghost.Garbage(w))
	wrong(t, w, ghost.RootGone, 1, 0)
	if !ghost.Painted(w) {
		t.Error("not painted, but nothing is reached")
	}
}
