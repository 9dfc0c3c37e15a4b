package op_test

import (
	"math"
	"slices"
	"testing"

	"dustpan/api"
	"dustpan/op"
)

// said is what there is to tell of a kind: its word, and what its numbers are: r a register, c a cell, s how many fields, f a field.
type said struct{ name, uses string }

// all are the kinds by their numbers, from 1 on, as the document writes them.
func all() []said {
	return []said{
		1: {"alloc", "rs"},
		2: {"load", "rrf"},
		3: {"store", "rfr"},
		4: {"get", "rc"},
		5: {"set", "cr"},
		6: {"drop", "r"},
		7: {"move", "rr"},
		8: {"safe", ""},
	}
}

// kinds ranges over the kinds.
func kinds(yield func(int, said) bool) {
	for kind, k := range all() {
		if kind > 0 && !yield(kind, k) {
			return
		}
	}
}

// noKinds are numbers of no kind.
func noKinds() []int {
	return []int{math.MinInt, -8, -2, -1, 0, 9, 10, 16, 256, 1 << 32, 1<<32 + 1, math.MaxInt}
}

// small is a config of 3 registers and 2 cells.
func small() api.Config {
	return api.Config{Blocks: 1, Words: 16, Muts: 2, Regs: 3, Cells: 2, Log: 1, Stack: 1}
}

// made is an operation with these numbers.
func made(kind int, l ...int) api.Op {
	o := api.Op{Kind: kind}
	for i, at := range []*int{&o.A, &o.B, &o.C}[:len(l)] {
		*at = l[i]
	}
	return o
}

// checks looks at what Check, and Right of it alone, tell.
func checks(t *testing.T, c api.Config, o api.Op, want api.Errno) {
	t.Helper()
	if e := op.Check(c, o); e != want {
		t.Errorf("Check(%v, %v): %d; want %d", c, o, e, want)
	}
	if i, e := op.Right(c, o); i != 0 || e != want {
		t.Errorf("Right(%v, %v): %d, %d; want 0, %d", c, o, i, e, want)
	}
}

func TestKindsAreNumbered(t *testing.T) {
	l := []int{api.Alloc, api.Load, api.Store, api.Get, api.Set, api.Drop, api.Move, api.Safe}
	for i, constant := range l {
		if constant != i+1 {
			t.Error(l)
		}
	}
}

func TestEachKind(t *testing.T) {
	for kind, k := range kinds {
		if got := op.Name(kind); got != k.name {
			t.Errorf("Name(%d): %q; want %q", kind, got, k.name)
		}
		if got := op.Uses(kind); got != len(k.uses) {
			t.Errorf("Uses(%d): %d; want %d", kind, got, len(k.uses))
		}
	}
}

func TestNoKinds(t *testing.T) {
	for _, kind := range noKinds() {
		o := made(kind, 1, 2, 3)
		if op.Name(kind) != "" || op.Uses(kind) != 0 || op.Bare(o) != (api.Op{}) {
			t.Errorf("%d: %q, %d, %v", kind, op.Name(kind), op.Uses(kind), op.Bare(o))
		}
		if s, e := op.Line(o); s != "" || e != api.ErrArg {
			t.Errorf("Line(%v): %q, %d", o, s, e)
		}
		checks(t, small(), o, api.ErrArg)
		checks(t, small(), made(kind, -1, -1, -1), api.ErrArg)
	}
}

// Bare lays 0 where the kind uses nothing, and leaves the rest, whatever it is.
func TestBare(t *testing.T) {
	for kind, k := range kinds {
		for _, l := range [][]int{{1, 2, 3}, {-1, -2, -3}, {0, 0, 0}, {math.MinInt, math.MaxInt, math.MinInt}, {99, 99, 99}} {
			o, want := made(kind, l...), made(kind, l[:len(k.uses)]...)
			if got := op.Bare(o); got != want || op.Bare(got) != want {
				t.Errorf("Bare(%v): %v; want %v", o, got, want)
			}
		}
	}
}

// edge is a number of an operation, and what is wrong with it.
type edge struct {
	n    int
	want api.Errno
}

// below are numbers about 0 and about an end, of which those that aren't from 0 on, below it, are wrong.
func below(end int, wrong api.Errno) []edge {
	var l []edge
	for _, n := range []int{math.MinInt, -1 << 32, -2, -1, 0, end - 1, end, end + 1, 1 << 32, 1<<32 + 1, math.MaxInt} {
		if n < 0 || n >= end {
			l = append(l, edge{n, wrong})
		} else {
			l = append(l, edge{n, api.OK})
		}
	}
	return l
}

// edges are numbers that are to be checked, by what they are.
func edges(c api.Config, use byte) []edge {
	switch use {
	case 'r':
		return below(c.Regs, api.ErrReg)
	case 'c':
		return below(c.Cells, api.ErrCell)
	case 's':
		return below(16, api.ErrSize)
	}
	return below(math.MaxInt, api.OK)
}

// configs are right ones with registers and cells at their limits.
func configs() []api.Config {
	var l []api.Config
	for _, regs := range []int{1, 2, 64} {
		for _, cells := range []int{0, 1, 7, 64} {
			c := small()
			c.Regs, c.Cells = regs, cells
			l = append(l, c)
		}
	}
	return l
}

// TestCheckAtEachEdge checks all numbers of each kind, each of them at all of its edges: the first one that is wrong is told, and what the kind doesn't use is never wrong.
func TestCheckAtEachEdge(t *testing.T) {
	for _, c := range configs() {
		for kind, k := range kinds {
			lists := [3][]edge{}
			for place := range lists {
				lists[place] = []edge{{math.MinInt, api.OK}, {-1, api.OK}, {99, api.OK}}
				if place < len(k.uses) {
					lists[place] = edges(c, k.uses[place])
				}
			}
			for _, x := range lists[0] {
				for _, y := range lists[1] {
					for _, z := range lists[2] {
						want := x.want
						if want == api.OK {
							want = y.want
						}
						if want == api.OK {
							want = z.want
						}
						checks(t, c, made(kind, x.n, y.n, z.n), want)
					}
				}
			}
		}
	}
}

// A config that isn't right is told ahead of all else, whatever is wrong with it.
func TestCheckOfAConfigThatIsntRight(t *testing.T) {
	var wrong []api.Config
	for i, n := range []int{0, 4097, 15, 257, 0, 9, 0, 65, -1, 65, 0, 257, 0, 4097} {
		c := small()
		*[]*int{&c.Blocks, &c.Words, &c.Muts, &c.Regs, &c.Cells, &c.Log, &c.Stack}[i/2] = n
		wrong = append(wrong, c)
	}
	for _, c := range append(wrong, api.Config{}) {
		for kind := range kinds {
			checks(t, c, made(kind), api.ErrArg)
			checks(t, c, made(kind, -1, -1, -1), api.ErrArg)
		}
		checks(t, c, api.Op{}, api.ErrArg)
	}
	for kind, k := range kinds {
		if e := op.Check(small(), made(kind)); e != api.OK {
			t.Errorf("Check of %s 0 0 0: %d", k.name, e)
		}
	}
}

// Right tells the first one that is wrong, wherever that is, and 0 if there is none.
func TestRight(t *testing.T) {
	c := small()
	good := []api.Op{made(api.Alloc, 2, 15), made(api.Load, 0, 1, -1), made(api.Store, 0, 99, 2), made(api.Get, 0, 1), made(api.Set, 1, 0), made(api.Drop, 2), made(api.Move, 1, 1), made(api.Safe, 9, 9, 9)}
	for end := range len(good) + 1 {
		if i, e := op.Right(c, good[:end]...); i != 0 || e != api.OK {
			t.Errorf("Right of %d that are right: %d, %d", end, i, e)
		}
	}
	for o, want := range map[api.Op]api.Errno{
		made(api.Drop, 3):      api.ErrReg,
		made(api.Get, 0, 2):    api.ErrCell,
		made(api.Alloc, 0, 16): api.ErrSize,
		made(9):                api.ErrArg,
	} {
		for at := range len(good) + 1 {
			l := slices.Insert(slices.Clone(good), at, o)
			l = append(l, api.Op{}, made(api.Drop, -1)) // wrong as well, but not the first ones
			was := slices.Clone(l)
			if i, e := op.Right(c, l...); i != at || e != want {
				t.Errorf("Right with %v at %d: %d, %d; want %d", o, at, i, e, want)
			}
			if !slices.Equal(l, was) {
				t.Error("what was handed in has changed:", l)
			}
		}
	}
}

// With a config that isn't right the first one is wrong, if there is one.
func TestRightOfAConfigThatIsntRight(t *testing.T) {
	if i, e := op.Right(api.Config{}, made(api.Safe), made(9)); i != 0 || e != api.ErrArg {
		t.Errorf("Right: %d, %d", i, e)
	}
	for _, c := range []api.Config{small(), {}} {
		if i, e := op.Right(c); i != 0 || e != api.OK {
			t.Errorf("Right of none: %d, %d", i, e)
		}
	}
}

// The chapter's example.
func TestExample(t *testing.T) {
	c := small()
	c.Regs = 2
	o := api.Op{Kind: api.Store, A: 1, C: 2}
	if s, e := op.Line(o); s != "store 1 0 2" || e != api.OK {
		t.Errorf("Line: %q, %d", s, e)
	}
	checks(t, c, o, api.ErrReg)
	c.Regs = 3
	checks(t, c, o, api.OK)
}
