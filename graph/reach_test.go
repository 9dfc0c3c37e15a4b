package graph_test

import (
	"slices"
	"testing"

	"dustpan/api"
	"dustpan/graph"
)

// Roots are told once each, rising, from all registers and cells.
func TestRoots(t *testing.T) {
	g := made(t, small())
	for id := 1; id <= 5; id++ {
		does(t, g, 0, "alloc 0 1", id)
		if id == 2 || id == 4 {
			does(t, g, 0, "set 1 0", 0)
			does(t, g, 1, "get 2 1", id)
		}
	}
	same(t, "Roots", g.Roots(), 4, 5)
	does(t, g, 0, "move 1 0", 5)
	does(t, g, 1, "alloc 0 0", 6)
	does(t, g, 0, "drop 0", 0)
	same(t, "Roots", g.Roots(), 4, 5, 6)
	does(t, g, 0, "set 1 1", 0)
	same(t, "Roots", g.Roots(), 4, 5, 6) // the register has it still
	does(t, g, 1, "drop 2", 0)
	same(t, "Roots", g.Roots(), 5, 6)
	does(t, g, 1, "drop 0", 0)
	does(t, g, 0, "drop 1", 0)
	same(t, "Roots", g.Roots(), 5) // the cell has it still
	does(t, g, 0, "set 1 1", 0)
	same(t, "Roots", g.Roots())
	same(t, "Reach", g.Reach())
	if g.Count() != 6 {
		t.Errorf("Count: %d", g.Count())
	}
}

// The last register of the last mutator and the last cell are roots as well as the first ones.
func TestRootsAtTheEdges(t *testing.T) {
	c := api.Config{Blocks: 1, Words: 16, Muts: 8, Regs: 64, Cells: 64, Log: 1, Stack: 1}
	g := made(t, c)
	var want []int
	for m := range c.Muts {
		for r := range c.Regs {
			if v, e := g.Do(m, api.Op{Kind: api.Alloc, A: r}); e != api.OK || v != len(want)+1 {
				t.Fatalf("alloc: %d, %d", v, e)
			}
			want = append(want, len(want)+1)
		}
	}
	same(t, "Roots", g.Roots(), want...)
	for i := range c.Cells {
		does(t, g, 7, "alloc 63 0", len(want)+1)
		if _, e := g.Do(7, api.Op{Kind: api.Set, A: i, B: 63}); e != api.OK {
			t.Fatalf("set %d: %d", i, e)
		}
		want = append(want, len(want)+1)
	}
	does(t, g, 7, "drop 63", 0)
	want = slices.Delete(want, 511, 512)
	same(t, "Roots", g.Roots(), want...)
	same(t, "Reach", g.Reach(), want...)
}

// What is reached goes on by all fields, through loops, to what was made earlier and later; the rest isn't.
func TestReach(t *testing.T) {
	g := made(t, small())
	does(t, g, 0, "alloc 0 2", 1)
	does(t, g, 0, "alloc 1 2", 2)
	does(t, g, 0, "alloc 2 2", 3)
	does(t, g, 0, "store 0 1 2", 0) // 1 to 3
	does(t, g, 0, "store 2 0 1", 0) // 3 to 2
	does(t, g, 0, "store 1 1 2", 0) // 2 to 3: a loop
	does(t, g, 0, "store 1 0 1", 0) // 2 to 2: another one
	same(t, "Reach", g.Reach(), 1, 2, 3)
	does(t, g, 0, "drop 1", 0)
	does(t, g, 0, "drop 2", 0)
	same(t, "Reach", g.Reach(), 1, 2, 3)
	same(t, "Roots", g.Roots(), 1)
	does(t, g, 0, "load 1 0 1", 3)
	does(t, g, 0, "drop 0", 0)
	same(t, "Reach", g.Reach(), 2, 3) // nothing reaches 1, though it has a field
	does(t, g, 0, "set 0 1", 0)
	does(t, g, 0, "drop 1", 0)
	same(t, "Reach", g.Reach(), 2, 3)
	does(t, g, 1, "get 0 0", 3)
	does(t, g, 1, "store 0 0 1", 0)
	same(t, "Reach", g.Reach(), 3)
	does(t, g, 1, "set 0 1", 0)
	same(t, "Reach", g.Reach(), 3)
	does(t, g, 1, "drop 0", 0)
	same(t, "Reach", g.Reach())
}

// All of an object's fields are gone on by, the last one too.
func TestReachOfManyFields(t *testing.T) {
	g := made(t, small())
	does(t, g, 0, "alloc 0 15", 1)
	want := []int{1}
	for field := range 15 {
		does(t, g, 0, "alloc 1 0", field+2)
		if _, e := g.Do(0, api.Op{Kind: api.Store, A: 0, B: 14 - field, C: 1}); e != api.OK {
			t.Fatalf("store %d: %d", field, e)
		}
		want = append(want, field+2)
	}
	does(t, g, 0, "drop 1", 0)
	same(t, "Reach", g.Reach(), want...)
}

// A very long list is reached whole, whether it goes on to what was made later or earlier.
func TestReachOfALongList(t *testing.T) {
	const n = 300000
	for way, step := range map[string]api.Op{
		"later":   {Kind: api.Store, A: 0, B: 1, C: 1},
		"earlier": {Kind: api.Store, A: 1, B: 1, C: 0},
	} {
		g := made(t, small())
		does(t, g, 0, "alloc 0 2", 1)
		does(t, g, 0, "set 0 0", 0)
		for i := range n - 1 {
			for _, o := range []api.Op{{Kind: api.Alloc, A: 1, B: 2}, step, {Kind: api.Move, A: 0, B: 1}} {
				if _, e := g.Do(0, o); e != api.OK {
					t.Fatalf("%d: %v: %d", i, o, e)
				}
			}
		}
		does(t, g, 0, "drop 1", 0)
		if way == "later" {
			does(t, g, 0, "drop 0", 0)
		} else {
			does(t, g, 0, "set 0 2", 0)
		}
		if l := g.Reach(); len(l) != n || l[0] != 1 || l[n-1] != n || !slices.IsSorted(l) || len(g.Roots()) != 1 {
			t.Errorf("to what was made %s: %d reached, by %v", way, len(l), g.Roots())
		}
	}
}

// A copy is the same, and neither changes with the other one.
func TestCopy(t *testing.T) {
	g := made(t, small())
	same(t, "a copy of nothing", all(g.Copy()), all(g)...)
	does(t, g, 0, "alloc 0 2", 1)
	does(t, g, 1, "alloc 1 1", 2)
	does(t, g, 0, "store 0 1 0", 0)
	does(t, g, 1, "set 0 1", 0)
	h, was := g.Copy(), all(g)
	same(t, "a copy", all(h), was...)
	changes := func(a, b *graph.Graph) {
		t.Helper()
		does(t, a, 0, "store 0 0 0", 0)
		does(t, a, 0, "set 1 0", 0)
		does(t, a, 1, "drop 1", 0)
		does(t, a, 0, "alloc 2 3", 3)
		same(t, "the other one", all(b), was...)
		same(t, "Fields(1)", a.Fields(1), 1, 1)
		same(t, "Fields(3)", a.Fields(3), 0, 0, 0)
		cells(t, a, 2, 1)
		regs(t, a, 1, 0, 0, 0)
	}
	i := h.Copy()
	changes(h, g)
	changes(g, i)
	refuses(t, i, 2, "safe", api.ErrRange) // it has the config, too
	refuses(t, i, 0, "drop 3", api.ErrReg)
	refuses(t, i, 0, "get 0 2", api.ErrCell)
}

// A copy's objects are numbered on from its own ones, and those of one don't come into the other.
func TestCopiesGrowApart(t *testing.T) {
	g := made(t, small())
	for id := 1; id <= 9; id++ {
		h := g.Copy()
		does(t, h, 0, "alloc 1 2", id)
		does(t, g, 0, "alloc 1 3", id)
		same(t, "Fields", h.Fields(id), 0, 0)
		same(t, "Fields", g.Fields(id), 0, 0, 0)
		does(t, h, 0, "alloc 1 0", id+1)
		if g.Count() != id || h.Count() != id+1 {
			t.Errorf("Count: %d, %d", g.Count(), h.Count())
		}
	}
}

// What is answered is the caller's own.
func TestAnswersAreNewMemory(t *testing.T) {
	g := made(t, small())
	does(t, g, 0, "alloc 0 2", 1)
	does(t, g, 0, "store 0 0 0", 0)
	does(t, g, 0, "alloc 1 0", 2)
	was := all(g)
	for _, tell := range []func() []int{g.Roots, g.Reach, func() []int { return g.Fields(1) }} {
		l, m := tell(), tell()
		kept := slices.Clone(m)
		for i := range l[:cap(l)] {
			l[:cap(l)][i] = 99
		}
		same(t, "another answer", m, kept...)
		same(t, "all", all(g), was...)
	}
}
