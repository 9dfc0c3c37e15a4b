package mutator_test

import (
	"testing"

	"dustpan/api"
	"dustpan/class"
	"dustpan/config"
	"dustpan/graph"
	"dustpan/guess"
	"dustpan/mutator"
	"dustpan/op"
)

// some is a program of n operations by a rule, those that are wrong among them.
func some(roll guess.Rule, c api.Config, n int) []api.Op {
	size := 1 + roll(5)
	var l []api.Op
	for range n {
		o := api.Op{Kind: 1 + roll(8), A: roll(c.Regs), B: roll(c.Regs), C: roll(c.Regs)}
		switch o.Kind {
		case api.Alloc:
			if o.B = roll(size + 1); roll(12) == 0 {
				o.B = roll(18)
			}
		case api.Load:
			o.C = roll(size+1) - roll(2)
		case api.Store:
			o.B = roll(size+1) - roll(2)
		case api.Get:
			o.B = roll(c.Cells + 1)
		case api.Set:
			o.A = roll(c.Cells + 1)
		}
		if roll(40) == 0 {
			o.A, o.B, o.C = roll(20)-2, roll(20)-2, roll(20)-2
		}
		l = append(l, o)
	}
	return l
}

// twin is a graph, in which operations are done as mutators have ended them, and a map from its numbers to addresses.
type twin struct {
	config api.Config
	graph  *graph.Graph
	at     []int
}

// twinned is a twin without objects.
func twinned(t *testing.T, c api.Config) *twin {
	t.Helper()
	g, e := graph.New(c)
	if e != api.OK {
		t.Fatal("no graph:", e)
	}
	return &twin{config: c, graph: g, at: []int{0}}
}

// does does an operation that ended, and holds what the mutator told against the graph.
func (w *twin) does(t *testing.T, s *mutator.Shared, o api.Op, e api.Event) {
	t.Helper()
	if e.Code == api.ErrMemory {
		k, _ := class.Of(o.B)
		if o.Kind != api.Alloc || op.Check(w.config, o) != api.OK || e.Value != 0 {
			t.Fatalf("memory is refused to %v: %v", o, e)
		}
		if len(s.Heap.Frees(k)) > 0 || len(s.Heap.Table().Unassigned()) > 0 {
			t.Fatalf("memory is refused to %v, but there is some", o)
		}
		return
	}
	v, code := w.graph.Do(e.Who, o)
	if code == api.OK && o.Kind == api.Alloc {
		w.at = append(w.at, e.Value)
		if e.Value < 1 {
			t.Fatalf("%v made %v", o, e)
		}
	}
	if e.Code != code || e.Value != w.at[v] {
		t.Fatalf("%v: %v; want %d, %d", o, e, code, w.at[v])
	}
}

// same holds registers, cells and fields of all that is reached against the graph.
func (w *twin) same(t *testing.T, s *mutator.Shared, muts ...*mutator.Mut) {
	t.Helper()
	for who, m := range muts {
		for r, a := range m.Regs() {
			if want := w.at[w.graph.Reg(who, r)]; a != want {
				t.Fatalf("the register %d of %d: %d; want %d", r, who, a, want)
			}
		}
	}
	for i := range w.config.Cells {
		if a, _ := s.Heap.Cell(i); a != w.at[w.graph.Cell(i)] {
			t.Fatalf("the cell %d: %d", i, a)
		}
	}
	known := map[int]bool{}
	for _, id := range w.graph.Reach() {
		a := w.at[id]
		if known[a] || !s.Heap.Is(a) {
			t.Fatalf("%d is two objects, or none", a)
		}
		known[a] = true
		fields := w.graph.Fields(id)
		if n, _ := s.Heap.Fields(a); n != len(fields) {
			t.Fatalf("%d has %d fields; want %d", a, n, len(fields))
		}
		for field, to := range fields {
			if v, _ := s.Heap.Load(a, field); v != w.at[to] {
				t.Fatalf("the field %d of %d: %d; want %d", field, a, v, w.at[to])
			}
		}
	}
}

// few holds what operations and answers took against their bounds.
func few(t *testing.T, c api.Config, m *mutator.Mut) {
	t.Helper()
	if o, a := m.Most(); o > config.OpPicks(c) || a > config.AnswerPicks(c) {
		t.Fatalf("Most: %d, %d; at most %d, %d", o, a, config.OpPicks(c), config.AnswerPicks(c))
	}
}

// Alone, a mutator's results are the graph's, by whatever mode.
func TestAloneAgainstAGraph(t *testing.T) {
	codes := map[api.Errno]int{}
	for seed := range uint64(150) {
		roll := guess.By(seed)
		c := api.Config{Blocks: 1 + roll(6), Words: 16 + roll(20), Muts: 1, Regs: 1 + roll(4), Cells: roll(3), Log: 1 + roll(4), Stack: 1}
		s := share(t, c)
		l := some(roll, c, 150)
		m, w := with(t, s, 0, l), twinned(t, c)
		for !m.Done() {
			if roll(40) == 0 {
				s.Board.Ask([]int{api.Arm, api.Sync, api.Drain, api.Off}[roll(4)])
			}
			if e, ok := m.Pick(); ok {
				codes[e.Code]++
				w.does(t, s, l[e.Op], e)
				w.same(t, s, m)
			}
		}
		if len(m.Results()) != len(l) {
			t.Fatalf("%d of %d ended", len(m.Results()), len(l))
		}
		few(t, c, m)
	}
	for _, e := range []api.Errno{api.OK, api.ErrReg, api.ErrNil, api.ErrField, api.ErrSize, api.ErrCell, api.ErrMemory} {
		if codes[e] < 10 {
			t.Errorf("the code %d came %d times", e, codes[e])
		}
	}
}

// with is a mutator with a program.
func with(t *testing.T, s *mutator.Shared, id int, l []api.Op) *mutator.Mut {
	t.Helper()
	m, e := mutator.New(s, id, l...)
	if e != api.OK || m == nil {
		t.Fatalf("New(%d): %v, %d", id, m, e)
	}
	return m
}

// The longest operations there are: an alloc that sweeps the greatest block, and a store by a log that is full again and again.
func TestLongestOperations(t *testing.T) {
	c := api.Config{Blocks: 1, Words: 256, Muts: 1, Regs: 2, Cells: 1, Log: 1, Stack: 1}
	s := share(t, c)
	fills(s.Heap, 1)
	s.Queue.Put(0, 0)
	m := made(t, s, 0, "alloc 0 1")
	runs(t, m)
	few(t, c, m)
	if o, _ := m.Most(); o < 128 || m.Results()[0].Code != api.OK {
		t.Error("Most:", o, m.Results())
	}
	c.Log, c.Regs = 256, 3
	s = share(t, c)
	m = made(t, s, 0, "alloc 0 0", "alloc 1 0", "alloc 2 0", "set 0 0", "set 0 1", "set 0 0")
	for len(m.Results()) < 4 {
		m.Pick()
	}
	s.Board.Ask(api.Arm)
	quiet(t, m, 2)
	runs(t, m)
	few(t, c, m)
	same(t, "Logged", m.Logged(), 1, 3, 3, 1)
}
