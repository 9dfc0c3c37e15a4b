package mutator_test

import (
	"slices"
	"testing"

	"dustpan/api"
	"dustpan/guess"
	"dustpan/mutator"
	"dustpan/sweep"
	"dustpan/trace"
)

// keeper is a plain collector for mutators: what the chapters above say of a cycle, with a mark stack that has no bound.
type keeper struct {
	s       *mutator.Shared
	phase   int
	color   int
	stack   []int
	cursor  *sweep.Cursor
	anew    bool // something was painted anew, or the flag was raised, since Drain was asked
	garbage []int
	freed   map[int]bool // since the cycle began
	rests   int          // how many cycles ended
}

// roots is what cells, registers and what is held have.
func roots(s *mutator.Shared, muts []*mutator.Mut) []int {
	var l []int
	for i := range s.Heap.Config().Cells {
		v, _ := s.Heap.Cell(i)
		l = append(l, v)
	}
	for _, m := range muts {
		l = append(append(l, m.Regs()...), m.Held())
	}
	return l
}

// look looks at a value.
func (k *keeper) look(v int) {
	if fresh, _ := k.s.Heap.Paint(v, k.color); fresh {
		k.stack = append(k.stack, v)
		k.anew = true
	}
}

// mark does one thing of marking; false, if there is nothing to be done.
func (k *keeper) mark() bool {
	if n := len(k.stack); n > 0 {
		a := k.stack[n-1]
		k.stack = k.stack[:n-1]
		for _, v := range trace.Edges(k.s.Heap, a) {
			k.look(v)
		}
		return true
	}
	for _, x := range k.s.Boxes {
		if a, ok := x.Next(); ok {
			k.look(a)
			return true
		}
	}
	if k.s.Flag.Lower() {
		k.anew = true
		for _, a := range k.s.Heap.Objects() {
			if c, _ := k.s.Heap.Color(a); c == k.color {
				k.stack = append(k.stack, a)
			}
		}
		return true
	}
	return false
}

// goes goes on by one thing.
func (k *keeper) goes(t *testing.T, muts []*mutator.Mut) {
	t.Helper()
	switch {
	case k.phase == api.Sweep:
		k.sweeps()
	case k.phase != api.Idle && !k.s.Board.All():
	case k.phase == api.Idle:
		k.color = 1 - k.color
		k.garbage = trace.Garbage(k.s.Heap, roots(k.s, muts)...)
		k.freed = map[int]bool{}
		k.asks(api.Arm)
	case k.phase == api.Arm:
		k.asks(api.Sync)
	case k.phase == api.Sync:
		k.asks(api.Scan)
	case k.phase == api.Scan:
		for i := range k.s.Heap.Config().Cells {
			v, _ := k.s.Heap.Cell(i)
			k.look(v)
		}
		k.phase = api.Trace
	case k.mark():
	case k.phase == api.Trace || k.anew:
		k.anew = false
		k.asks(api.Drain)
	case k.phase == api.Drain:
		k.marked(t, muts)
	case k.phase == api.Off:
		k.rested(t, muts)
	}
}

// asks asks all of a phase, which is where the cycle is from then on.
func (k *keeper) asks(phase int) {
	k.phase = phase
	k.s.Board.Ask(phase)
}

// marked ends marking, and puts all blocks into the queue.
func (k *keeper) marked(t *testing.T, muts []*mutator.Mut) {
	t.Helper()
	for _, a := range trace.Reach(k.s.Heap, roots(k.s, muts)...) {
		if c, _ := k.s.Heap.Color(a); c != k.color {
			t.Fatalf("%d is reached, but isn't marked", a)
		}
	}
	k.phase = api.Sweep
	table := k.s.Heap.Table()
	for b := range k.s.Heap.Config().Blocks {
		if class, ok := table.Class(b); ok {
			k.s.Queue.Put(class, b)
		}
	}
}

// sweeps sweeps a slot, or takes a block, or asks of Off, if the queue rests.
func (k *keeper) sweeps() {
	if k.cursor != nil {
		if a, ok := k.cursor.Step(); ok {
			k.freed[a] = true
		}
		if k.cursor.Done() {
			k.cursor = nil
			k.s.Queue.Done()
		}
		return
	}
	if b, _, e := k.s.Queue.Any(); e == api.OK {
		k.cursor, _ = sweep.New(k.s.Heap, b, k.color)
		return
	}
	if k.s.Queue.Rests() {
		k.asks(api.Off)
	}
}

// rested ends a cycle: what was garbage when it began is freed, all have one color, and nothing is logged.
func (k *keeper) rested(t *testing.T, muts []*mutator.Mut) {
	t.Helper()
	k.phase = api.Idle
	k.rests++
	for _, a := range k.garbage {
		if !k.freed[a] {
			t.Fatalf("%d was garbage, but isn't freed", a)
		}
	}
	for _, a := range k.s.Heap.Objects() {
		if c, _ := k.s.Heap.Color(a); c != k.color {
			t.Fatalf("%d has the other color", a)
		}
	}
	for _, m := range muts {
		if m.Color() != k.color || m.Mode() != mutator.Off || len(m.Logged()) > 0 {
			t.Fatal("a mutator has the other color, or logs")
		}
	}
}

// sound looks at whether all that is reached are objects, and each slot is one thing.
func sound(t *testing.T, s *mutator.Shared, muts []*mutator.Mut) {
	t.Helper()
	l := slices.DeleteFunc(roots(s, muts), func(a int) bool { return a == 0 })
	for _, a := range trace.Reach(s.Heap, l...) {
		for _, v := range trace.Edges(s.Heap, a) {
			l = append(l, v)
		}
	}
	for _, a := range l {
		if !s.Heap.Is(a) {
			t.Fatalf("%d is reached, but is no object", a)
		}
	}
	parts := slices.Concat(s.Heap.Objects(), s.Heap.Hands())
	for k := range api.Classes {
		parts = append(parts, s.Heap.Frees(k)...)
	}
	slices.Sort(parts)
	if all := slices.Collect(s.Heap.Table().All()); !slices.Equal(parts, all) {
		t.Fatalf("the slots %v are parted as %v", all, parts)
	}
}

// tally is what came, in all runs.
type tally struct {
	codes          map[api.Errno]int
	freed, rests   int
	held, painteds int
}

// TestAmongOthers has several mutators go on by picks of a fixed rule while a plain collector works: what is reached are objects by every pick, what ended tells what the graph tells, what was garbage is freed, and all is done within the bounds.
func TestAmongOthers(t *testing.T) {
	sum := &tally{codes: map[api.Errno]int{}}
	for seed := range uint64(120) {
		among(t, guess.By(seed+1000), sum)
		if t.Failed() {
			t.Fatal("the seed", seed)
		}
	}
	if sum.rests < 200 || sum.freed < 500 || sum.held < 500 || sum.painteds < 20 || sum.codes[api.ErrMemory] < 20 || sum.codes[api.OK] < 5000 {
		t.Errorf("too few came: %+v", sum)
	}
}

// among is one run of them.
func among(t *testing.T, roll guess.Rule, sum *tally) {
	t.Helper()
	c := api.Config{Blocks: 1 + roll(5), Words: 16 + roll(9), Muts: 1 + roll(4), Regs: 1 + roll(4), Cells: roll(3), Log: 1 + roll(3), Stack: 1}
	s := share(t, c)
	var muts []*mutator.Mut
	var programs [][]api.Op
	for id := range c.Muts {
		programs = append(programs, some(roll, c, 500))
		muts = append(muts, with(t, s, id, programs[id]))
	}
	w, k := twinned(t, c), &keeper{s: s}
	weight := 1 + roll(6)
	for range 5000 {
		who := roll(c.Muts + weight)
		if who >= c.Muts {
			// Slow in sweeping, so that mutators come to it, too.
			if k.phase != api.Sweep || roll(10) == 0 {
				k.goes(t, muts)
			}
		} else if e, ok := muts[who].Pick(); ok {
			sees(t, s, k, w, programs[who], e, sum)
		}
		sound(t, s, muts)
		for _, m := range muts {
			if m.Held() != 0 {
				sum.held++
			}
		}
		if s.Flag.Up() {
			sum.painteds++
		}
		if !slices.ContainsFunc(muts, (*mutator.Mut).Busy) {
			w.same(t, s, muts...)
		}
	}
	sum.rests += k.rests
	for _, m := range muts {
		few(t, c, m)
	}
}

// sees takes a mutator's event.
func sees(t *testing.T, s *mutator.Shared, k *keeper, w *twin, l []api.Op, e api.Event, sum *tally) {
	t.Helper()
	switch e.Kind {
	case api.Did:
		sum.codes[e.Code]++
		w.does(t, s, l[e.Op], e)
	case api.Freed:
		sum.freed++
		k.freed[e.Value] = true
		if e.Op != 0 || e.Code != api.OK || s.Heap.Is(e.Value) {
			t.Fatalf("freed: %v", e)
		}
	default:
		t.Fatalf("an event of no kind of a mutator's: %v", e)
	}
}
