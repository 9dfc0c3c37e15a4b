package graph_test

import (
	"math"
	"slices"
	"testing"

	"dustpan/api"
	"dustpan/graph"
	"dustpan/op"
)

// small is a config of 2 mutators of 3 registers, and 2 cells.
func small() api.Config {
	return api.Config{Blocks: 1, Words: 16, Muts: 2, Regs: 3, Cells: 2, Log: 1, Stack: 1}
}

// made is a graph of a config.
func made(t *testing.T, c api.Config) *graph.Graph {
	t.Helper()
	g, e := graph.New(c)
	if e != api.OK || g == nil {
		t.Fatalf("New(%v): %v, %d", c, g, e)
	}
	return g
}

// does does the operation of a line, which tells that.
func does(t *testing.T, g *graph.Graph, m int, line string, want int) {
	t.Helper()
	o, e := op.Parse(line)
	if e != api.OK {
		t.Fatalf("no line: %q", line)
	}
	if v, e := g.Do(m, o); v != want || e != api.OK {
		t.Fatalf("%d: %s: %d, %d; want %d", m, line, v, e, want)
	}
}

// fails does an operation that is refused, and looks at whether it has changed nothing.
func fails(t *testing.T, g *graph.Graph, m int, o api.Op, want api.Errno) {
	t.Helper()
	was := all(g)
	if v, e := g.Do(m, o); v != 0 || e != want {
		t.Errorf("Do(%d, %v): %d, %d; want %d", m, o, v, e, want)
	}
	if got := all(g); !slices.Equal(got, was) {
		t.Errorf("Do(%d, %v) was refused, but changed %v to %v", m, o, was, got)
	}
}

// refuses does the operation of a line likewise.
func refuses(t *testing.T, g *graph.Graph, m int, line string, want api.Errno) {
	t.Helper()
	o, e := op.Parse(line)
	if e != api.OK {
		t.Fatalf("no line: %q", line)
	}
	fails(t, g, m, o, want)
}

// all is all that a graph tells.
func all(g *graph.Graph) []int {
	var l []int
	for m := range api.MaxMuts + 1 {
		for r := range api.MaxRegs + 1 {
			l = append(l, g.Reg(m, r))
		}
	}
	for i := range api.MaxCells + 1 {
		l = append(l, g.Cell(i))
	}
	for id := range g.Count() + 2 {
		l = append(append(l, -1), g.Fields(id)...)
	}
	l = append(append(l, -1), g.Roots()...)
	return append(append(l, -1), g.Reach()...)
}

// same holds numbers against what they should be.
func same(t *testing.T, what string, got []int, want ...int) {
	t.Helper()
	if !slices.Equal(got, want) {
		t.Errorf("%s: %v; want %v", what, got, want)
	}
}

// regs looks at a mutator's registers.
func regs(t *testing.T, g *graph.Graph, m int, want ...int) {
	t.Helper()
	for r, id := range want {
		if got := g.Reg(m, r); got != id {
			t.Errorf("Reg(%d, %d): %d; want %d", m, r, got, id)
		}
	}
}

// cells looks at the cells.
func cells(t *testing.T, g *graph.Graph, want ...int) {
	t.Helper()
	for i, id := range want {
		if got := g.Cell(i); got != id {
			t.Errorf("Cell(%d): %d; want %d", i, got, id)
		}
	}
}

// places are numbers of no place of a row of so many.
func places(n int) []int {
	return []int{math.MinInt, -1 << 32, -2, -1, n, n + 1, 64, 1 << 32, 1<<32 + 1, math.MaxInt}
}

func TestNew(t *testing.T) {
	for _, c := range []api.Config{small(), {Blocks: 1, Words: 16, Muts: 1, Regs: 1, Log: 1, Stack: 1}, {Blocks: 4096, Words: 256, Muts: 8, Regs: 64, Cells: 64, Log: 256, Stack: 4096}} {
		g := made(t, c)
		for _, v := range all(g) {
			if v > 0 {
				t.Fatalf("New(%v): %v", c, all(g))
			}
		}
		if g.Count() != 0 || len(g.Roots()) != 0 || len(g.Reach()) != 0 {
			t.Errorf("New(%v): %d, %v, %v", c, g.Count(), g.Roots(), g.Reach())
		}
	}
}

func TestNewRefuses(t *testing.T) {
	wrong := []api.Config{{}}
	for i, n := range []int{0, 4097, 15, 257, 0, 9, 0, 65, -1, 65, 0, 257, 0, 4097} {
		c := small()
		*[]*int{&c.Blocks, &c.Words, &c.Muts, &c.Regs, &c.Cells, &c.Log, &c.Stack}[i/2] = n
		wrong = append(wrong, c)
	}
	for _, c := range wrong {
		if g, e := graph.New(c); g != nil || e != api.ErrArg {
			t.Errorf("New(%v): %v, %d", c, g, e)
		}
	}
}

// The chapter's example.
func TestExample(t *testing.T) {
	g := made(t, small())
	does(t, g, 0, "alloc 0 1", 1)
	does(t, g, 0, "store 0 0 0", 0)
	does(t, g, 0, "load 1 0 0", 1)
	regs(t, g, 0, 1, 1, 0)
	same(t, "Fields(1)", g.Fields(1), 1)
}

// Each alloc is the next object, of whoever, with as many fields as it asks, all 0.
func TestAlloc(t *testing.T) {
	g := made(t, small())
	for n := range 16 {
		o := api.Op{Kind: api.Alloc, A: n % 3, B: n}
		if v, e := g.Do(n%2, o); v != n+1 || e != api.OK {
			t.Fatalf("%v: %d, %d", o, v, e)
		}
		if g.Reg(n%2, n%3) != n+1 || g.Count() != n+1 {
			t.Errorf("%v: %d, %d", o, g.Reg(n%2, n%3), g.Count())
		}
		same(t, "Fields", g.Fields(n+1), make([]int, n)...)
	}
	fails(t, g, 0, api.Op{Kind: api.Alloc, B: 16}, api.ErrSize)
	fails(t, g, 0, api.Op{Kind: api.Alloc, B: -1}, api.ErrSize)
	does(t, g, 0, "alloc 0 0", 17)
	cells(t, g, 0, 0)
}

// TestLoad takes each field of an object, and none beside them.
func TestLoad(t *testing.T) {
	g := made(t, small())
	does(t, g, 0, "alloc 0 3", 1)
	does(t, g, 0, "alloc 1 0", 2)
	does(t, g, 0, "store 0 1 1", 0)
	does(t, g, 0, "store 0 2 0", 0)
	does(t, g, 0, "load 2 0 1", 2)
	regs(t, g, 0, 1, 2, 2)
	does(t, g, 0, "load 2 0 2", 1)
	regs(t, g, 0, 1, 2, 1)
	does(t, g, 0, "load 2 0 0", 0)
	regs(t, g, 0, 1, 2, 0)
	for _, field := range places(3) {
		fails(t, g, 0, api.Op{Kind: api.Load, A: 2, B: 0, C: field}, api.ErrField)
		fails(t, g, 0, api.Op{Kind: api.Load, A: 1, B: 2, C: field}, api.ErrNil) // told ahead of the field
	}
	for _, field := range append(places(0), 0) {
		fails(t, g, 0, api.Op{Kind: api.Load, A: 0, B: 1, C: field}, api.ErrField)
	}
	refuses(t, g, 0, "load 0 2 0", api.ErrNil)
	does(t, g, 0, "load 0 0 1", 2) // into the register that it goes by
	regs(t, g, 0, 2, 2, 0)
	same(t, "Fields(1)", g.Fields(1), 0, 2, 1)
}

// TestStore lays each field of an object, and none beside them.
func TestStore(t *testing.T) {
	g := made(t, small())
	does(t, g, 0, "alloc 0 3", 1)
	does(t, g, 0, "alloc 1 0", 2)
	does(t, g, 0, "store 0 2 1", 0)
	same(t, "Fields(1)", g.Fields(1), 0, 0, 2)
	does(t, g, 0, "store 0 0 0", 0)
	same(t, "Fields(1)", g.Fields(1), 1, 0, 2)
	does(t, g, 0, "store 0 2 2", 0) // nothing
	same(t, "Fields(1)", g.Fields(1), 1, 0, 0)
	regs(t, g, 0, 1, 2, 0)
	for _, field := range places(3) {
		fails(t, g, 0, api.Op{Kind: api.Store, A: 0, B: field, C: 1}, api.ErrField)
		fails(t, g, 0, api.Op{Kind: api.Store, A: 2, B: field, C: 1}, api.ErrNil) // told ahead of the field
	}
	for _, field := range append(places(0), 0) {
		fails(t, g, 0, api.Op{Kind: api.Store, A: 1, B: field, C: 0}, api.ErrField)
	}
	refuses(t, g, 0, "store 2 0 1", api.ErrNil)
	fails(t, g, 0, api.Op{Kind: api.Store, A: 2, B: 9, C: 3}, api.ErrReg) // Check's error is told ahead of all
}

// Objects keep what their fields have, whoever forgets them.
func TestObjectsStay(t *testing.T) {
	g := made(t, small())
	does(t, g, 0, "alloc 0 1", 1)
	does(t, g, 0, "store 0 0 0", 0)
	does(t, g, 0, "drop 0", 0)
	same(t, "Reach", g.Reach())
	same(t, "Fields(1)", g.Fields(1), 1)
	does(t, g, 0, "alloc 0 0", 2)
	if g.Count() != 2 {
		t.Errorf("Count: %d", g.Count())
	}
}

// Cells are of all mutators, registers of one.
func TestCellsAndRegisters(t *testing.T) {
	g := made(t, small())
	does(t, g, 0, "alloc 1 1", 1)
	does(t, g, 0, "alloc 2 1", 2)
	does(t, g, 0, "set 0 1", 0)
	does(t, g, 0, "set 1 2", 0)
	cells(t, g, 1, 2)
	regs(t, g, 0, 0, 1, 2)
	regs(t, g, 1, 0, 0, 0)
	does(t, g, 1, "get 0 1", 2)
	does(t, g, 1, "get 2 0", 1)
	regs(t, g, 1, 2, 0, 1)
	does(t, g, 1, "set 0 1", 0) // nothing
	cells(t, g, 0, 2)
	does(t, g, 1, "get 2 0", 0)
	regs(t, g, 1, 2, 0, 0)
	regs(t, g, 0, 0, 1, 2)
	does(t, g, 1, "store 0 0 0", 0)
	does(t, g, 0, "load 0 2 0", 2)
	regs(t, g, 0, 2, 1, 2)
}

func TestDropMoveSafe(t *testing.T) {
	g := made(t, small())
	does(t, g, 1, "alloc 0 0", 1)
	does(t, g, 1, "alloc 1 0", 2)
	does(t, g, 1, "move 2 1", 2)
	regs(t, g, 1, 1, 2, 2)
	does(t, g, 1, "move 1 0", 1)
	regs(t, g, 1, 1, 1, 2)
	does(t, g, 1, "move 2 2", 2)
	does(t, g, 1, "drop 0", 0)
	regs(t, g, 1, 0, 1, 2)
	does(t, g, 1, "drop 0", 0)
	does(t, g, 1, "move 1 0", 0)
	regs(t, g, 1, 0, 0, 2)
	was := all(g)
	does(t, g, 1, "safe", 0)
	does(t, g, 0, "safe", 0)
	same(t, "all behind safe", all(g), was...)
}

// What a kind doesn't use hangs on nothing.
func TestWhatIsntBareIsDone(t *testing.T) {
	g := made(t, small())
	for _, o := range []api.Op{{Kind: api.Alloc, B: 1, C: -1}, {Kind: api.Set, A: 1, C: 99}, {Kind: api.Move, A: 1, C: -1}, {Kind: api.Get, A: 2, B: 1, C: 99}} {
		if _, e := g.Do(0, o); e != api.OK {
			t.Errorf("Do(0, %v): %d", o, e)
		}
	}
	regs(t, g, 0, 1, 1, 1)
	for _, o := range []api.Op{{Kind: api.Drop, B: 99, C: -1}, {Kind: api.Safe, A: -1, B: 99, C: math.MinInt}} {
		if v, e := g.Do(0, o); v != 0 || e != api.OK {
			t.Errorf("Do(0, %v): %d, %d", o, v, e)
		}
	}
	regs(t, g, 0, 0, 1, 1)
}

// Of no mutator nothing is done, whatever the operation is; then Check's error is told.
func TestRefused(t *testing.T) {
	g := made(t, small())
	does(t, g, 0, "alloc 0 1", 1)
	does(t, g, 1, "alloc 2 1", 2)
	for _, m := range append(places(2), 7, 8) {
		for _, o := range []api.Op{{}, {Kind: 9}, {Kind: api.Safe}, {Kind: api.Alloc}, {Kind: api.Drop, A: 99}, {Kind: api.Load, B: 1}} {
			fails(t, g, m, o, api.ErrRange)
		}
	}
	for m := range 2 {
		for _, kind := range []int{math.MinInt, -1, 0, 9, 1<<32 + 1, math.MaxInt} {
			fails(t, g, m, api.Op{Kind: kind}, api.ErrArg)
		}
		for kind := api.Alloc; kind <= api.Safe; kind++ {
			for _, n := range places(3) {
				for _, o := range []api.Op{{Kind: kind, A: n}, {Kind: kind, B: n}, {Kind: kind, C: n}} {
					if want := op.Check(small(), o); want != api.OK {
						fails(t, g, m, o, want)
					}
				}
			}
		}
		refuses(t, g, m, "get 0 2", api.ErrCell)
		refuses(t, g, m, "set 2 9", api.ErrCell)
		refuses(t, g, m, "set 0 3", api.ErrReg)
	}
}

// A graph without cells has none to get or to set.
func TestWithoutCells(t *testing.T) {
	c := small()
	c.Cells = 0
	g := made(t, c)
	does(t, g, 0, "alloc 0 0", 1)
	refuses(t, g, 0, "get 0 0", api.ErrCell)
	refuses(t, g, 0, "set 0 0", api.ErrCell)
	same(t, "Roots", g.Roots(), 1)
}

// Of no mutator, register, cell or object there is nothing to tell.
func TestNoPlaces(t *testing.T) {
	g := made(t, small())
	for m := range 2 {
		for r := range 3 {
			g.Do(m, api.Op{Kind: api.Alloc, A: r, B: 2})
		}
	}
	does(t, g, 0, "set 0 0", 0)
	does(t, g, 0, "set 1 1", 0)
	for _, n := range places(2) {
		if g.Reg(n, 0) != 0 || g.Cell(n) != 0 {
			t.Errorf("%d: %d, %d", n, g.Reg(n, 0), g.Cell(n))
		}
	}
	for _, n := range places(3) {
		if g.Reg(0, n) != 0 || g.Reg(1, n) != 0 {
			t.Errorf("%d: %d, %d", n, g.Reg(0, n), g.Reg(1, n))
		}
	}
	for _, id := range append(places(7), 0) {
		if l := g.Fields(id); len(l) != 0 {
			t.Errorf("Fields(%d): %v", id, l)
		}
	}
	regs(t, g, 0, 1, 2, 3)
	regs(t, g, 1, 4, 5, 6)
}

// Of a nil graph there is nothing, and nothing is done.
func TestNil(t *testing.T) {
	var g *graph.Graph
	for _, n := range []int{math.MinInt, -1, 0, 1, 2, math.MaxInt} {
		for _, o := range []api.Op{{}, {Kind: api.Safe}, {Kind: api.Alloc}, {Kind: n}, {Kind: api.Drop, A: n}} {
			if v, e := g.Do(n, o); v != 0 || e != api.ErrState {
				t.Errorf("Do(%d, %v): %d, %d", n, o, v, e)
			}
		}
		if g.Reg(n, n) != 0 || g.Reg(0, n) != 0 || g.Cell(n) != 0 || len(g.Fields(n)) != 0 {
			t.Errorf("%d: %d, %d, %v", n, g.Reg(n, n), g.Cell(n), g.Fields(n))
		}
	}
	if g.Count() != 0 || len(g.Roots()) != 0 || len(g.Reach()) != 0 || g.Copy() != nil {
		t.Errorf("%d, %v, %v, %v", g.Count(), g.Roots(), g.Reach(), g.Copy())
	}
}
