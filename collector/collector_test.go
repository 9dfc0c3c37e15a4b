package collector_test

import (
	"slices"
	"strconv"
	"testing"

	"dustpan/api"
	"dustpan/collector"
	"dustpan/heap"
	"dustpan/log"
	"dustpan/mutator"
	"dustpan/op"
)

// small is a config of 2 mutators of 3 registers, 2 cells, and 4 blocks of 16 words.
func small() api.Config {
	return api.Config{Blocks: 4, Words: 16, Muts: 2, Regs: 3, Cells: 2, Log: 2, Stack: 4}
}

// lone is a config of 1 mutator and 1 cell.
func lone() api.Config {
	c := small()
	c.Muts, c.Cells = 1, 1
	return c
}

// machine is what is shared, its collector, and its mutators.
type machine struct {
	*mutator.Shared
	coll *collector.Coll
	muts []*mutator.Mut
}

// with is a machine whose mutators have programs.
func with(t *testing.T, c api.Config, programs ...[]api.Op) *machine {
	t.Helper()
	s, e := mutator.Share(c)
	if e != api.OK {
		t.Fatalf("Share(%v): %d", c, e)
	}
	x, e := collector.New(s)
	if e != api.OK || x == nil {
		t.Fatalf("New: %v, %d", x, e)
	}
	m := &machine{Shared: s, coll: x}
	for id := range c.Muts {
		var program []api.Op
		if id < len(programs) {
			program = programs[id]
		}
		one, e := mutator.New(s, id, program...)
		if e != api.OK {
			t.Fatalf("no mutator %d: %d", id, e)
		}
		m.muts = append(m.muts, one)
	}
	return m
}

// lines is the operations of lines.
func lines(t *testing.T, l ...string) []api.Op {
	t.Helper()
	var out []api.Op
	for _, line := range l {
		o, e := op.Parse(line)
		if e != api.OK {
			t.Fatalf("no line: %q", line)
		}
		out = append(out, o)
	}
	return out
}

// object makes an object of the color 0 whose fields have these values.
func object(t *testing.T, h *heap.Heap, fields ...int) int {
	t.Helper()
	a, e := h.Make(len(fields), 0)
	if e != api.OK {
		t.Fatal("Make:", e)
	}
	for field, v := range fields {
		lays(t, h, a, field, v)
	}
	return a
}

// lays lays a field.
func lays(t *testing.T, h *heap.Heap, a, field, v int) {
	t.Helper()
	if e := h.Store(a, field, v); e != api.OK {
		t.Fatalf("Store(%d, %d, %d): %d", a, field, v, e)
	}
}

// sets lays the cells, from the first one on.
func (m *machine) sets(t *testing.T, values ...int) {
	t.Helper()
	for i, v := range values {
		if e := m.Heap.SetCell(i, v); e != api.OK {
			t.Fatalf("SetCell(%d, %d): %d", i, v, e)
		}
	}
}

// round picks each mutator, and then the collector, once; what the collector told.
func (m *machine) round() (api.Event, bool) {
	for _, one := range m.muts {
		one.Pick()
	}
	return m.coll.Pick()
}

// until goes on by rounds until the collector tells an event of a kind; what it told, that one last.
func (m *machine) until(t *testing.T, kind int) []api.Event {
	t.Helper()
	var l []api.Event
	for range 100000 {
		e, ok := m.round()
		if !ok {
			continue
		}
		if l = append(l, e); e.Kind == kind {
			return l
		}
	}
	t.Fatalf("no event of the kind %d, but %v, in the phase %d", kind, l, m.coll.Phase())
	return nil
}

// goes does something again and again until something holds.
func goes(t *testing.T, what string, holds func() bool, do func()) {
	t.Helper()
	for range 100000 {
		if holds() {
			return
		}
		do()
	}
	t.Fatal("it never comes to this:", what)
}

// in is whether the collector is in a phase.
func (m *machine) in(phase int) func() bool {
	return func() bool { return m.coll.Phase() == phase }
}

// comes goes on by rounds until the collector is in a phase.
func (m *machine) comes(t *testing.T, phase int) {
	t.Helper()
	goes(t, "the phase "+strconv.Itoa(phase), m.in(phase), func() { m.round() })
}

// hold goes on until a phase, by which the mutators do nothing but answer.
func (m *machine) hold(t *testing.T, phase int) {
	t.Helper()
	goes(t, "the phase "+strconv.Itoa(phase), m.in(phase), func() { m.alone(t) })
}

// alone picks the collector, and mutators as long as they owe an answer.
func (m *machine) alone(t *testing.T) {
	t.Helper()
	m.coll.Pick()
	m.replies(t)
}

// replies picks mutators, as long as they owe an answer.
func (m *machine) replies(t *testing.T) {
	t.Helper()
	for id, one := range m.muts {
		goes(t, "an answer", func() bool { return m.Board.Answered(id) }, func() { one.Pick() })
	}
}

// does picks a mutator until so many of its operations have ended.
func (m *machine) does(t *testing.T, who, ended int) {
	t.Helper()
	one := m.muts[who]
	goes(t, "the end of operations", func() bool { return len(one.Results()) >= ended }, func() { one.Pick() })
}

// cycle has a cycle go from its wish to its end; what was freed by the collector.
func (m *machine) cycle(t *testing.T) []int {
	t.Helper()
	m.coll.Wish()
	return freed(m.until(t, api.Rested))
}

// freed is the addresses that events tell as freed.
func freed(events []api.Event) []int {
	var l []int
	for _, e := range events {
		if e.Kind == api.Freed {
			l = append(l, e.Value)
		}
	}
	return l
}

// quiet picks the collector so often, by which nothing is told.
func (m *machine) quiet(t *testing.T, picks int) {
	t.Helper()
	for i := range picks {
		if e, ok := m.coll.Pick(); ok || e != (api.Event{}) {
			t.Fatalf("the pick %d of %d: %v, %v", i, picks, e, ok)
		}
	}
}

// same holds numbers against what they should be.
func same(t *testing.T, what string, got []int, want ...int) {
	t.Helper()
	if !slices.Equal(got, want) {
		t.Fatalf("%s: %v; want %v", what, got, want)
	}
}

// rounds holds how often mutators were asked of Drain, and slots gone through, against what it should be.
func (m *machine) rounds(t *testing.T, drains, walks int) {
	t.Helper()
	if d, w := m.coll.Rounds(); d != drains || w != walks {
		t.Fatalf("Rounds: %d, %d; want %d, %d", d, w, drains, walks)
	}
}

func TestNew(t *testing.T) {
	m := with(t, small())
	x := m.coll
	if x.Phase() != api.Idle || x.Color() != 0 || x.Cycles() != 0 || x.Wishes() || x.Busy() {
		t.Error("it isn't as at first:", x.Phase(), x.Color(), x.Cycles(), x.Wishes(), x.Busy())
	}
	same(t, "Stacked", x.Stacked())
	m.rounds(t, 0, 0)
	if x.Shared != m.Shared {
		t.Error("it has another Shared")
	}
}

func TestNewRefuses(t *testing.T) {
	whole := *with(t, small()).Shared
	wrong := []*mutator.Shared{nil, {}}
	for _, without := range []func(s *mutator.Shared){
		func(s *mutator.Shared) { s.Heap = nil },
		func(s *mutator.Shared) { s.Heap = &heap.Heap{} }, // of no config
		func(s *mutator.Shared) { s.Board = nil },
		func(s *mutator.Shared) { s.Queue = nil },
		func(s *mutator.Shared) { s.Flag = nil },
	} {
		s := whole
		without(&s)
		wrong = append(wrong, &s)
	}
	for i, s := range wrong {
		if x, e := collector.New(s); x != nil || e != api.ErrArg {
			t.Errorf("New of %d: %v, %d", i, x, e)
		}
	}
}

func TestNil(t *testing.T) {
	var x *collector.Coll
	x.Wish()
	for range 3 {
		if e, ok := x.Pick(); ok || e != (api.Event{}) {
			t.Error("Pick:", e, ok)
		}
	}
	drains, walks := x.Rounds()
	if x.Wishes() || x.Busy() || x.Phase() != 0 || x.Color() != 0 || x.Cycles() != 0 || len(x.Stacked()) != 0 || drains != 0 || walks != 0 {
		t.Error("a nil collector has something")
	}
}

// Without a wish a pick does nothing.
func TestIdle(t *testing.T) {
	m := with(t, small())
	object(t, m.Heap)
	m.quiet(t, 100)
	if m.coll.Busy() || m.coll.Phase() != api.Idle || m.Board.Count() != 0 || m.coll.Cycles() != 0 || len(m.Heap.Objects()) != 1 {
		t.Error("something was done")
	}
}

// The pick that begins a cycle asks of Arm, and that is all of it.
func TestBegins(t *testing.T) {
	for _, muts := range []int{1, 2, 8} {
		c := small()
		c.Muts = muts
		m := with(t, c)
		m.coll.Wish()
		m.coll.Wish()
		if !m.coll.Wishes() || m.coll.Busy() || m.coll.Phase() != api.Idle || m.coll.Cycles() != 0 || m.Board.Count() != 0 {
			t.Fatal("a wish alone does something")
		}
		e, ok := m.coll.Pick()
		if !ok || e != (api.Event{Who: muts, Kind: api.Start, Value: 1}) {
			t.Fatal("Pick:", e, ok)
		}
		if m.coll.Wishes() || !m.coll.Busy() || m.coll.Phase() != api.Arm || m.coll.Color() != 1 || m.coll.Cycles() != 1 || m.Board.Count() != 1 {
			t.Error("the cycle hasn't begun, or more than that was done")
		}
		for id := range muts {
			if kind, owes := m.Board.Pending(id); kind != api.Arm || !owes {
				t.Errorf("asked of %d: %d, %v", id, kind, owes)
			}
		}
	}
}

// What is answered is new memory.
func TestStackedIsNew(t *testing.T) {
	m := with(t, lone())
	a := object(t, m.Heap)
	m.sets(t, a)
	m.coll.Wish()
	goes(t, "a stack", func() bool { return len(m.coll.Stacked()) > 0 }, func() { m.round() })
	l := m.coll.Stacked()
	same(t, "Stacked", l, a)
	l[0] = 99
	_ = append(l, 98)
	same(t, "Stacked", m.coll.Stacked(), a)
}

// Of two collectors each has what it is made of.
func TestTwo(t *testing.T) {
	m, n := with(t, small()), with(t, small())
	m.coll.Wish()
	m.coll.Pick()
	if n.coll.Wishes() || n.coll.Busy() || n.Board.Count() != 0 {
		t.Error("two collectors share something")
	}
}

// A box that isn't there is as an empty one.
func TestWithoutBoxes(t *testing.T) {
	for _, boxes := range [][]*log.Box{nil, {nil}, {nil, nil}} {
		m := with(t, small())
		m.Boxes = boxes
		object(t, m.Heap)
		if l := m.cycle(t); len(l) != 1 {
			t.Error("freed:", l)
		}
	}
}
