package graph_test

import (
	"maps"
	"slices"
	"testing"

	"dustpan/api"
	"dustpan/op"
)

// spot is where a number stands: in a mutator's register, in a cell (of the mutator -1), or in an object's field (of the mutator -2, by its number and field).
type spot struct{ who, at, field int }

// model is a graph by the chapter's words: what stands where, if it isn't 0, and how many fields each object has.
type model struct {
	config api.Config
	has    map[spot]int
	fields []int
}

// does does an operation.
func (m *model) does(who int, o api.Op) (int, api.Errno) {
	if who < 0 || who >= m.config.Muts {
		return 0, api.ErrRange
	}
	if e := op.Check(m.config, o); e != api.OK {
		return 0, e
	}
	reg := func(r int) spot { return spot{who, r, 0} }
	cell := func(i int) spot { return spot{-1, i, 0} }
	base, field := o.B, o.C
	if o.Kind == api.Store {
		base, field = o.A, o.B
	}
	if o.Kind == api.Load || o.Kind == api.Store {
		id := m.has[reg(base)]
		if id == 0 {
			return 0, api.ErrNil
		}
		if field < 0 || field >= m.fields[id-1] {
			return 0, api.ErrField
		}
		at := spot{-2, id, field}
		if o.Kind == api.Store {
			m.has[at] = m.has[reg(o.C)]
			return 0, api.OK
		}
		m.has[reg(o.A)] = m.has[at]
		return m.has[at], api.OK
	}
	switch o.Kind {
	case api.Alloc:
		m.fields = append(m.fields, o.B)
		m.has[reg(o.A)] = len(m.fields)
		return len(m.fields), api.OK
	case api.Get:
		m.has[reg(o.A)] = m.has[cell(o.B)]
		return m.has[cell(o.B)], api.OK
	case api.Set:
		m.has[cell(o.A)] = m.has[reg(o.B)]
	case api.Drop:
		delete(m.has, reg(o.A))
	case api.Move:
		m.has[reg(o.A)] = m.has[reg(o.B)]
		return m.has[reg(o.B)], api.OK
	}
	return 0, api.OK
}

// roots are what registers and cells have.
func (m *model) roots() []int {
	found := map[int]bool{}
	for at, id := range m.has {
		if at.who >= -1 && id != 0 {
			found[id] = true
		}
	}
	return slices.Sorted(maps.Keys(found))
}

// reach is what is reached: as long as what is reached has a field with one that isn't, that one is, too.
func (m *model) reach() []int {
	found := map[int]bool{}
	for _, id := range m.roots() {
		found[id] = true
	}
	for was := -1; was != len(found); {
		was = len(found)
		for at, id := range m.has {
			if at.who == -2 && found[at.at] && id != 0 {
				found[id] = true
			}
		}
	}
	return slices.Sorted(maps.Keys(found))
}

// told is all that a graph of this tells, as all tells it.
func (m *model) told() []int {
	var l []int
	for who := range api.MaxMuts + 1 {
		for r := range api.MaxRegs + 1 {
			l = append(l, m.has[spot{who, r, 0}])
		}
	}
	for i := range api.MaxCells + 1 {
		l = append(l, m.has[spot{-1, i, 0}])
	}
	l = append(l, -1) // of 0
	for i, n := range m.fields {
		l = append(l, -1)
		for field := range n {
			l = append(l, m.has[spot{-2, i + 1, field}])
		}
	}
	l = append(l, -1) // of the one behind the last one
	l = append(append(l, -1), m.roots()...)
	return append(append(l, -1), m.reach()...)
}

// TestAgainstAModel does operations by a fixed rule, those that are wrong among them, and holds what they tell against the chapter's words; copies on the way stay as they were.
func TestAgainstAModel(t *testing.T) {
	codes := map[api.Errno]int{}
	for seed := range uint64(60) {
		x := seed*2862933555777941757 + 1
		roll := func(n int) int {
			x = x*6364136223846793005 + 1442695040888963407
			return int(x>>33) % n
		}
		c := api.Config{Blocks: 1, Words: 16, Muts: 1 + roll(3), Regs: 1 + roll(4), Cells: roll(3), Log: 1, Stack: 1}
		g, m := made(t, c), &model{config: c, has: map[spot]int{}}
		size := 1 + roll(5)
		kept, was := g.Copy(), all(g)
		for n := range 400 {
			who := roll(c.Muts)
			if roll(40) == 0 {
				who = roll(12) - 2
			}
			o := api.Op{Kind: 1 + roll(8), A: roll(c.Regs), B: roll(c.Regs), C: roll(c.Regs)}
			switch o.Kind {
			case api.Alloc:
				if o.B = roll(size + 1); roll(10) == 0 {
					o.B += 15
				}
			case api.Load:
				o.C = roll(size+1) - roll(2)
			case api.Store:
				o.B = roll(size+1) - roll(2)
			}
			if roll(20) == 0 {
				o.A, o.B, o.C = roll(20)-2, roll(20)-2, roll(20)-2
			}
			if roll(50) == 0 {
				o.Kind = roll(14) - 2
			}
			want, code := m.does(who, o)
			codes[code]++
			if v, e := g.Do(who, o); v != want || e != code {
				t.Fatalf("seed %d: Do(%d, %v): %d, %d; want %d, %d", seed, who, o, v, e, want, code)
			}
			if n%20 == 0 {
				same(t, "all", all(g), m.told()...)
				same(t, "what was copied", all(kept), was...)
				kept, was = g.Copy(), all(g)
			}
			if t.Failed() {
				t.Fatalf("seed %d, behind %v of %d", seed, o, who)
			}
		}
	}
	for _, e := range []api.Errno{api.OK, api.ErrArg, api.ErrRange, api.ErrReg, api.ErrNil, api.ErrField, api.ErrSize, api.ErrCell} {
		if codes[e] < 10 {
			t.Errorf("the code %d came %d times", e, codes[e])
		}
	}
}
