package world_test

import (
	"slices"
	"testing"

	"dustpan/api"
	"dustpan/class"
	"dustpan/collector"
	"dustpan/config"
	"dustpan/graph"
	"dustpan/guess"
	"dustpan/mutator"
	"dustpan/op"
	"dustpan/trace"
	"dustpan/world"
)

// A world's events are those of its parts, when they are picked by hand.
func TestAsItsParts(t *testing.T) {
	for seed := range uint64(60) {
		roll := guess.By(seed)
		c := guess.Config(roll)
		programs := guess.Programs(roll, c, 100)
		l := guess.Picks(roll, c, 2000)
		w := made(t, c, programs...)
		picks(t, w, l...)
		s, _ := mutator.Share(c)
		x, _ := collector.New(s)
		var muts []*mutator.Mut
		for id, program := range programs {
			m, _ := mutator.New(s, id, program...)
			muts = append(muts, m)
		}
		var want []api.Event
		for i, who := range l {
			var e api.Event
			ok := false
			switch {
			case who < c.Muts:
				e, ok = muts[who].Pick()
			case who == c.Muts:
				e, ok = x.Pick()
			default:
				x.Wish()
			}
			if ok {
				e.Pick = i
				want = append(want, e)
			}
		}
		same(t, "Events", w.Events(), want...)
		for id, m := range muts {
			same(t, "Regs", w.Mut(id).Regs(), m.Regs()...)
			same(t, "Results", w.Mut(id).Results(), m.Results()...)
		}
		objects(t, w, s.Heap.Objects()...)
		if w.Coll().Phase() != x.Phase() || w.Coll().Cycles() != x.Cycles() || w.Coll().Wishes() != x.Wishes() {
			t.Error("the collector is another one")
		}
	}
}

// looks looks at whatever there is of a world.
func looks(w *world.World) {
	_, _, _, _, _ = w.Config(), w.Picks(), w.Events(), w.Done(), w.Idle()
	for id := range w.Config().Muts + 2 {
		m := w.Mut(id)
		m.Regs()
		m.Held()
		m.Logged()
		m.Results()
		m.Most()
		w.Shared().Board.Pending(id)
	}
	x := w.Coll()
	_, _, _, _, _, _ = x.Wishes(), x.Phase(), x.Color(), x.Cycles(), x.Busy(), x.Stacked()
	s := w.Shared()
	_, _, _, _, _ = s.Heap.Objects(), s.Heap.Hands(), s.Heap.Table(), s.Queue.Rests(), s.Flag.Up()
	w.Since(w.Picks())
}

// The same picks have the same events, however they are handed in, whatever is refused between them, and whoever looks.
func TestSamePicks(t *testing.T) {
	for seed := range uint64(40) {
		roll := guess.By(seed + 300)
		c := guess.Config(roll)
		programs := guess.Programs(roll, c, 100)
		l := guess.Picks(roll, c, 1500)
		once := made(t, c, programs...)
		picks(t, once, l...)
		byOne, parts := made(t, c, programs...), made(t, c, programs...)
		for _, who := range l {
			if e := byOne.Pick(who); e != api.OK {
				t.Fatal("Pick:", e)
			}
			looks(byOne)
		}
		for rest := l; len(rest) > 0; {
			n := min(roll(50), len(rest))
			if done, e := parts.Run(append(slices.Clone(rest[:n]), -1, 0)...); done != n || e != api.ErrRange {
				t.Fatal("Run:", done, e)
			}
			parts.Pick(c.Muts + 2)
			rest = rest[n:]
		}
		for _, w := range []*world.World{byOne, parts} {
			same(t, "Events", w.Events(), once.Events()...)
			if w.Picks() != len(l) || w.Done() != once.Done() || w.Idle() != once.Idle() {
				t.Error("it is another world")
			}
		}
	}
}

// watch is a world that is looked at by each pick, and a graph in which the operations are done as they end.
type watch struct {
	*world.World
	programs [][]api.Op
	graph    *graph.Graph
	at       []int        // the addresses of the graph's numbers
	garbage  []int        // when the newest cycle began
	freed    map[int]bool // since then
	began    int          // the pick by which it did
	seen     int          // so many events
	told     map[int]int  // how many there were of each kind
	refused  int          // how often memory was
}

// watched is a watch of a world, whose programs have n operations by a rule.
func watched(t *testing.T, roll guess.Rule, c api.Config, n int) *watch {
	t.Helper()
	programs := guess.Programs(roll, c, n)
	g, e := graph.New(c)
	if e != api.OK {
		t.Fatal("no graph:", e)
	}
	return &watch{World: made(t, c, programs...), programs: programs, graph: g, at: []int{0}, freed: map[int]bool{}, told: map[int]int{}}
}

// does does a pick, and holds all that is told against what it should be.
func (w *watch) does(t *testing.T, who int) api.Event {
	t.Helper()
	picks(t, w.World, who)
	l := w.Since(w.seen)
	w.seen += len(l)
	var e api.Event
	switch len(l) {
	case 0:
		return e
	case 1:
		e = l[0]
	default:
		t.Fatal("a pick has more than one event:", l)
	}
	if e.Pick != w.Picks()-1 || e.Who != who {
		t.Fatalf("the pick %d of %d: %v", w.Picks()-1, who, e)
	}
	w.told[e.Kind]++
	switch e.Kind {
	case api.Did:
		w.ends(t, w.programs[who][e.Op], e)
	case api.Start:
		w.garbage = trace.Garbage(w.Shared().Heap, w.roots()...)
		clear(w.freed)
		w.began = e.Pick
	case api.Marked:
		w.painted(t)
	case api.Freed:
		w.freed[e.Value] = true
	case api.Rested:
		w.rests(t)
	}
	return e
}

// roots is what cells and registers have, and what is held, without 0.
func (w *watch) roots() []int {
	var l []int
	for i := range w.Config().Cells {
		v, _ := w.Shared().Heap.Cell(i)
		l = append(l, v)
	}
	for id := range w.Config().Muts {
		l = append(append(l, w.Mut(id).Regs()...), w.Mut(id).Held())
	}
	return slices.DeleteFunc(l, func(a int) bool { return a == 0 })
}

// sound looks at whether all that is reached are objects, and each slot is one thing.
func (w *watch) sound(t *testing.T) {
	t.Helper()
	h, l := w.Shared().Heap, w.roots()
	for _, a := range trace.Reach(h, l...) {
		for _, v := range trace.Edges(h, a) {
			l = append(l, v)
		}
	}
	for _, a := range l {
		if !h.Is(a) {
			t.Fatalf("%d is reached, but is no object", a)
		}
	}
	parts := slices.Concat(h.Objects(), h.Hands())
	for k := range api.Classes {
		parts = append(parts, h.Frees(k)...)
	}
	slices.Sort(parts)
	same(t, "the parts of the slots", parts, slices.Collect(h.Table().All())...)
}

// ends is an operation that ended: it tells what the graph tells, and memory is refused only where there is none.
func (w *watch) ends(t *testing.T, o api.Op, e api.Event) {
	t.Helper()
	if e.Code == api.ErrMemory {
		k, _ := class.Of(o.B)
		h := w.Shared().Heap
		if o.Kind != api.Alloc || op.Check(w.Config(), o) != api.OK || e.Value != 0 || len(h.Frees(k)) > 0 || len(h.Table().Unassigned()) > 0 {
			t.Fatalf("memory is refused to %v: %v", o, e)
		}
		w.refused++
		return
	}
	v, code := w.graph.Do(e.Who, o)
	if code == api.OK && o.Kind == api.Alloc {
		w.at = append(w.at, e.Value)
	}
	if e.Code != code || e.Value != w.at[v] {
		t.Fatalf("%v: %v; want %d, %d", o, e, code, w.at[v])
	}
}

// asGraph holds registers, cells, and fields of all that the graph reaches against the graph.
func (w *watch) asGraph(t *testing.T) {
	t.Helper()
	for id := range w.Config().Muts {
		for r, a := range w.Mut(id).Regs() {
			if want := w.at[w.graph.Reg(id, r)]; a != want {
				t.Fatalf("the register %d of %d: %d; want %d", r, id, a, want)
			}
		}
	}
	h := w.Shared().Heap
	for i := range w.Config().Cells {
		if a, _ := h.Cell(i); a != w.at[w.graph.Cell(i)] {
			t.Fatalf("the cell %d: %d", i, a)
		}
	}
	for _, id := range w.graph.Reach() {
		var got, want []int
		for field, to := range w.graph.Fields(id) {
			v, _ := h.Load(w.at[id], field)
			got, want = append(got, v), append(want, w.at[to])
		}
		same(t, "the fields", got, want...)
	}
}

// painted is the end of marking: all that is reached has the collector's color.
func (w *watch) painted(t *testing.T) {
	t.Helper()
	for _, a := range trace.Reach(w.Shared().Heap, w.roots()...) {
		if k, _ := w.Shared().Heap.Color(a); k != w.Coll().Color() {
			t.Fatalf("%d is reached, but isn't marked", a)
		}
	}
}

// rests is the end of a cycle: what was garbage when it began is freed, all have one color, and nothing is logged.
func (w *watch) rests(t *testing.T) {
	t.Helper()
	for _, a := range w.garbage {
		if !w.freed[a] {
			t.Fatalf("%d was garbage, but isn't freed", a)
		}
	}
	for _, a := range w.Shared().Heap.Objects() {
		if k, _ := w.Shared().Heap.Color(a); k != w.Coll().Color() {
			t.Fatalf("%d has the other color", a)
		}
	}
	for id := range w.Config().Muts {
		if m := w.Mut(id); m.Color() != w.Coll().Color() || m.Mode() != mutator.Off || len(m.Logged()) > 0 || w.Shared().Boxes[id].Len() > 0 {
			t.Fatal("a mutator has the other color, or logs:", id)
		}
	}
	if w.Shared().Flag.Up() || !w.Shared().Queue.Rests() || len(w.Coll().Stacked()) > 0 {
		t.Fatal("not all is at rest")
	}
}

// few holds how many picks operations and answers took against their bounds.
func (w *watch) few(t *testing.T) {
	t.Helper()
	for id := range w.Config().Muts {
		if o, a := w.Mut(id).Most(); o > config.OpPicks(w.Config()) || a > config.AnswerPicks(w.Config()) {
			t.Fatalf("Most: %d, %d", o, a)
		}
	}
}

// Of every script, fair or not, behind every pick: what is reached are objects, and all is as in the graph.
func TestScripts(t *testing.T) {
	told, refused := map[int]int{}, 0
	for seed := range uint64(120) {
		roll := guess.By(seed + 600)
		c := guess.Config(roll)
		w := watched(t, roll, c, 400)
		for _, who := range guess.Picks(roll, c, 2500) {
			w.does(t, who)
			w.sound(t)
			w.asGraph(t)
		}
		w.few(t)
		for kind, n := range w.told {
			told[kind] += n
		}
		refused += w.refused
	}
	if told[api.Did] < 5000 || told[api.Rested] < 300 || told[api.Freed] < 500 || refused < 50 {
		t.Error("too few came:", told, refused)
	}
}

// With picks that are fair by K marking ends, and a cycle, within their bounds.
func TestFair(t *testing.T) {
	for seed := range uint64(50) {
		roll := guess.By(seed + 900)
		c := guess.Config(roll)
		w := watched(t, roll, c, 300)
		who := c.Muts + 1 + roll(2) // whether wishes are among them, or not
		n := who + roll(20)
		k := 2*n - 1
		for w.told[api.Rested] < 3 {
			if w.Idle() {
				picks(t, w.World, c.Muts+1)
			}
			for _, one := range guess.Row(roll, who, n) {
				e := w.does(t, one)
				if e.Kind == api.Marked && e.Pick-w.began > config.Marking(c, k) || e.Kind == api.Rested && e.Pick-w.began > config.Cycle(c, k) {
					t.Fatalf("%v, fair by %d: began at %d, %v", c, k, w.began, e)
				}
			}
		}
		w.few(t)
	}
}

// Behind programs that have ended, and a cycle, just what is reached is left.
func TestRest(t *testing.T) {
	for seed := range uint64(60) {
		roll := guess.By(seed + 1200)
		c := guess.Config(roll)
		w := watched(t, roll, c, 60)
		for _, who := range guess.Picks(roll, c, 200) {
			w.does(t, who)
		}
		for !w.Done() || !w.Idle() {
			for _, who := range turns(c, 1) {
				w.does(t, who)
			}
		}
		cycle(t, w.World)
		objects(t, w.World, trace.Reach(w.Shared().Heap, w.roots()...)...)
		w.asGraph(t)
		w.few(t)
		for id := range c.Muts {
			if n := len(w.Mut(id).Results()); n != 60 {
				t.Fatal("ended:", n)
			}
		}
	}
}

// Programs of operations that are none, of any numbers, are worlds all the same: each ends with its error.
func TestWrongOperations(t *testing.T) {
	roll := guess.By(7)
	wild := func() int {
		return []int{-1 << 63, -1, 0, 1, 2, 3, 8, 9, 64, 1 << 40, 1<<63 - 1}[roll(11)]
	}
	for range 20 {
		c := guess.Config(roll)
		w := watched(t, roll, c, 0)
		programs := make([][]api.Op, c.Muts)
		for id := range programs {
			for range 100 {
				programs[id] = append(programs[id], api.Op{Kind: wild(), A: wild(), B: wild(), C: wild()})
			}
		}
		w.World, w.programs = made(t, c, programs...), programs
		for _, who := range guess.Picks(roll, c, 2000) {
			w.does(t, who)
			w.sound(t)
			w.asGraph(t)
		}
	}
}
