package collector_test

import (
	"slices"
	"testing"

	"dustpan/api"
	"dustpan/config"
	"dustpan/guess"
	"dustpan/mutator"
	"dustpan/phase"
	"dustpan/trace"
)

// some is a program of n operations by a rule, most of which lay and take fields.
func some(roll guess.Rule, c api.Config, n int) []api.Op {
	kinds := []int{api.Alloc, api.Load, api.Load, api.Store, api.Store, api.Store, api.Get, api.Get, api.Set, api.Drop, api.Move}
	size := 1 + roll(4)
	var l []api.Op
	for range n {
		o := api.Op{Kind: kinds[roll(len(kinds))], A: roll(c.Regs), B: roll(c.Regs), C: roll(c.Regs)}
		switch o.Kind {
		case api.Alloc:
			if o.B = size; roll(10) == 0 {
				o.B = roll(16)
			}
		case api.Load:
			o.C = roll(size)
		case api.Store:
			o.B = roll(size)
		case api.Get:
			o.B = roll(c.Cells + 1)
		case api.Set:
			o.A = roll(c.Cells + 1)
		}
		l = append(l, o)
	}
	return l
}

// roots is what cells, registers and what is held have, without 0.
func (m *machine) roots() []int {
	var l []int
	for i := range m.Heap.Config().Cells {
		v, _ := m.Heap.Cell(i)
		l = append(l, v)
	}
	for _, one := range m.muts {
		l = append(append(l, one.Regs()...), one.Held())
	}
	return slices.DeleteFunc(l, func(a int) bool { return a == 0 })
}

// sound looks at whether all that is reached are objects, and each slot is one thing.
func (m *machine) sound(t *testing.T) {
	t.Helper()
	l := m.roots()
	for _, a := range trace.Reach(m.Heap, l...) {
		for _, v := range trace.Edges(m.Heap, a) {
			l = append(l, v)
		}
	}
	for _, a := range l {
		if !m.Heap.Is(a) {
			t.Fatalf("%d is reached, but is no object", a)
		}
	}
	parts := slices.Concat(m.Heap.Objects(), m.Heap.Hands())
	for k := range api.Classes {
		parts = append(parts, m.Heap.Frees(k)...)
	}
	slices.Sort(parts)
	if all := slices.Collect(m.Heap.Table().All()); !slices.Equal(parts, all) {
		t.Fatalf("the slots %v are parted as %v", all, parts)
	}
}

// nothing looks at whether nothing is left to be marked: no box, no stack and no flag.
func (m *machine) nothing(t *testing.T) {
	t.Helper()
	for id, x := range m.Boxes {
		if x.Len() > 0 {
			t.Fatal("something is left in the box of", id)
		}
	}
	if m.Flag.Up() || len(m.coll.Stacked()) > 0 {
		t.Fatal("the flag is raised, or something is on the stack:", m.coll.Stacked())
	}
}

// things is what is shared, each thing by a number of its own: what a pick changes of it.
func (m *machine) things() map[int]int {
	l := map[int]int{-1: m.Board.Count(), -2: 0, -3: m.Queue.Open()}
	if m.Flag.Up() {
		l[-2] = 1
	}
	for k := range api.Classes {
		l[-3] = l[-3]*100 + m.Queue.Len(k)
	}
	for id, x := range m.Boxes {
		l[-4-id] = x.Len()
	}
	for a := range m.Heap.Table().All() {
		l[a] = 2
		if k, e := m.Heap.Color(a); e == api.OK {
			l[a] = k
		}
	}
	return l
}

// watch is a machine that is looked at by each pick.
type watch struct {
	*machine
	programs [][]api.Op
	garbage  []int        // when the newest cycle began
	freed    map[int]bool // since then
	young    map[int]bool // born since then by mutators of the collector's color
	drains   int          // ahead of that cycle
	walks    int
	told     map[int]int // how many events there were of each kind
}

// watched is a watch of a machine, whose programs have n operations by a rule.
func watched(t *testing.T, roll guess.Rule, c api.Config, n int) *watch {
	t.Helper()
	w := &watch{freed: map[int]bool{}, young: map[int]bool{}, told: map[int]int{}}
	for range c.Muts {
		w.programs = append(w.programs, some(roll, c, n))
	}
	w.machine = with(t, c, w.programs...)
	return w
}

// pick picks a mutator, or the collector; the kind of the event.
func (w *watch) pick(t *testing.T, who int) int {
	t.Helper()
	if who == len(w.muts) {
		return w.collects(t)
	}
	e, ok := w.muts[who].Pick()
	switch {
	case ok && e.Kind == api.Freed:
		w.frees(t, e.Value)
	case ok && e.Code == api.OK && w.programs[who][e.Op].Kind == api.Alloc && w.muts[who].Color() == w.coll.Color():
		w.young[e.Value] = true
	}
	return e.Kind
}

// collects picks the collector.
func (w *watch) collects(t *testing.T) int {
	t.Helper()
	was, from := w.things(), w.coll.Phase()
	e, ok := w.coll.Pick()
	changed := 0
	for thing, n := range w.things() {
		if was[thing] != n {
			changed++
		}
	}
	if changed > 1 {
		t.Fatalf("by one pick %d things are changed", changed)
	}
	if to := w.coll.Phase(); to != from && !phase.May(from, to) {
		t.Fatalf("from the phase %d to %d", from, to)
	}
	if ok == (e == api.Event{}) || ok && (e.Who != len(w.muts) || e.Pick != 0 || e.Op != 0 || e.Code != api.OK) {
		t.Fatalf("told: %v, %v", e, ok)
	}
	w.told[e.Kind]++
	switch e.Kind {
	case api.Start:
		w.starts(t, e.Value)
	case api.Marked:
		w.marked(t, e.Value)
	case api.Freed:
		w.frees(t, e.Value)
	case api.Rested:
		w.rested(t, e.Value)
	}
	return e.Kind
}

// starts is the beginning of a cycle.
func (w *watch) starts(t *testing.T, n int) {
	t.Helper()
	if n != w.coll.Cycles() || n != w.told[api.Start] || w.coll.Phase() != api.Arm {
		t.Fatalf("the cycle %d begins, but there are %d, and the phase is %d", n, w.coll.Cycles(), w.coll.Phase())
	}
	w.garbage = trace.Garbage(w.Heap, w.roots()...)
	clear(w.freed)
	clear(w.young)
	w.drains, w.walks = w.coll.Rounds()
}

// marked is the end of marking: all that is reached has the color, and there was no more to do than there are slots.
func (w *watch) marked(t *testing.T, n int) {
	t.Helper()
	if n != w.coll.Cycles() || w.coll.Phase() != api.Sweep {
		t.Fatalf("the cycle %d has marked by the phase %d", n, w.coll.Phase())
	}
	for _, a := range trace.Reach(w.Heap, w.roots()...) {
		if w.color(a) != w.coll.Color() {
			t.Fatalf("%d is reached, but isn't marked", a)
		}
	}
	w.nothing(t)
	slots := config.Slots(w.Heap.Config())
	if drains, walks := w.coll.Rounds(); drains-w.drains > 2*slots+1 || walks-w.walks > slots {
		t.Fatalf("%d slots: asked %d times, gone through %d times", slots, drains-w.drains, walks-w.walks)
	}
}

// frees is a slot that is freed.
func (w *watch) frees(t *testing.T, a int) {
	t.Helper()
	if w.freed[a] || w.young[a] || w.Heap.Is(a) || w.coll.Phase() != api.Sweep {
		t.Fatalf("%d is freed, though it was freed or born since the cycle began, or not by that phase", a)
	}
	w.freed[a] = true
}

// rested is the end of a cycle: what was garbage when it began is freed, all have one color, and nothing is logged.
func (w *watch) rested(t *testing.T, n int) {
	t.Helper()
	if n != w.coll.Cycles() || w.coll.Phase() != api.Idle || w.coll.Busy() || !w.Queue.Rests() {
		t.Fatalf("the cycle %d has ended, but not all is at rest", n)
	}
	for _, a := range w.garbage {
		if !w.freed[a] {
			t.Fatalf("%d was garbage, but isn't freed", a)
		}
	}
	for _, a := range w.Heap.Objects() {
		if w.color(a) != w.coll.Color() {
			t.Fatalf("%d has the other color", a)
		}
	}
	for _, one := range w.muts {
		if one.Color() != w.coll.Color() || one.Mode() != mutator.Off || len(one.Logged()) > 0 {
			t.Fatal("a mutator has the other color, or logs")
		}
	}
	w.nothing(t)
}

// Whoever is picked however often: what is reached are objects by each pick, and cycles do what they should.
func TestScripts(t *testing.T) {
	told := map[int]int{}
	for seed := range uint64(160) {
		roll := guess.By(seed)
		w := watched(t, roll, guess.Config(roll), 400)
		most, mine := 1+roll(30), 1+roll(60) // in one go
		for picks := 0; picks < 3000; {
			who := roll(len(w.muts) + 1)
			n := 1 + roll(most)
			if who == len(w.muts) {
				n = 1 + roll(mine)
			}
			for range n {
				if !w.coll.Busy() && roll(4) == 0 {
					w.coll.Wish()
				}
				w.pick(t, who)
				picks++
				w.sound(t)
			}
			if t.Failed() {
				t.Fatal("the seed", seed)
			}
		}
		for kind, n := range w.told {
			told[kind] += n
		}
		drains, walks := w.coll.Rounds()
		told[-1] += drains
		told[-2] += walks
	}
	if told[api.Rested] < 500 || told[api.Freed] < 1000 || told[-1] < told[api.Rested]*3/2 || told[-2] < 100 {
		t.Error("too few came:", told)
	}
}

// With picks that are fair by K marking ends, and a cycle, within their bounds.
func TestFair(t *testing.T) {
	for seed := range uint64(60) {
		roll := guess.By(seed + 500)
		c := guess.Config(roll)
		w := watched(t, roll, c, 300)
		block := c.Muts + 1 + roll(20)
		k := 2*block - 1
		since := 0
		goes(t, "four cycles", func() bool { return w.told[api.Rested] == 4 }, func() {
			for _, who := range guess.Row(roll, c.Muts+1, block) {
				w.coll.Wish()
				since++
				kind := w.pick(t, who)
				if kind == api.Start {
					since = 0
				}
				if kind == api.Marked && since > config.Marking(c, k) || kind == api.Rested && since > config.Cycle(c, k) {
					t.Fatalf("%v, fair by %d: behind %d picks the event %d", c, k, since, kind)
				}
			}
		})
	}
}

// Behind programs that have ended just what is reached is left.
func TestRest(t *testing.T) {
	for seed := range uint64(60) {
		roll := guess.By(seed + 900)
		w := watched(t, roll, guess.Config(roll), 60)
		done := func() bool {
			return !slices.ContainsFunc(w.muts, func(one *mutator.Mut) bool { return !one.Done() })
		}
		goes(t, "rest", func() bool { return done() && !w.coll.Busy() }, func() {
			if !done() && roll(20) == 0 {
				w.coll.Wish()
			}
			w.round()
		})
		w.coll.Wish()
		w.until(t, api.Rested)
		same(t, "Objects", w.Heap.Objects(), trace.Reach(w.Heap, w.roots()...)...)
	}
}

// With mutators that do nothing but answer just what isn't reached is freed, whatever the rooms are.
func TestJustGarbage(t *testing.T) {
	for seed := range uint64(200) {
		roll := guess.By(seed + 2000)
		c := guess.Config(roll)
		c.Blocks = 2 + roll(10)
		w := watched(t, roll, c, 30)
		var l []int
		for {
			a, e := w.Heap.Make(roll(7), 0)
			if e != api.OK {
				break
			}
			l = append(l, a)
		}
		for range 2 * len(l) {
			w.Heap.Store(l[roll(len(l))], roll(7), l[roll(len(l))]) // refused, where there is no such field
		}
		for i := range c.Cells {
			w.Heap.SetCell(i, l[roll(len(l))])
		}
		for id := range w.muts {
			w.does(t, id, 30)
		}
		for range 3 {
			garbage := trace.Garbage(w.Heap, w.roots()...)
			got := w.cycle(t)
			slices.Sort(got)
			same(t, "freed", got, garbage...)
			w.sound(t)
			for i := range c.Cells {
				w.Heap.SetCell(i, 0)
			}
		}
	}
}
