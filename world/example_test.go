package world_test

import (
	"strconv"
	"testing"

	"dustpan/api"
	"dustpan/world"
)

// until goes on by turns until something holds.
func until(t *testing.T, w *world.World, what string, holds func() bool) {
	t.Helper()
	turn := turns(w.Config(), 1)
	for !holds() {
		if w.Picks()+len(turn) > api.MaxPicks {
			t.Fatal("it never comes to this:", what)
		}
		picks(t, w, turn...)
	}
}

// done goes on by turns until all programs have ended.
func done(t *testing.T, w *world.World) {
	t.Helper()
	until(t, w, "the programs' end", w.Done)
}

// cycle has a cycle go from its wish to its end.
func cycle(t *testing.T, w *world.World) {
	t.Helper()
	picks(t, w, w.Config().Muts+1)
	until(t, w, "rest", w.Idle)
}

// does picks a mutator until so many of its operations have ended.
func does(t *testing.T, w *world.World, id, ended int) {
	t.Helper()
	for len(w.Mut(id).Results()) < ended {
		picks(t, w, id)
	}
}

// collects picks the collector, and mutators as long as they owe an answer, so that none begins an operation.
func collects(t *testing.T, w *world.World) {
	t.Helper()
	picks(t, w, w.Config().Muts)
	for id := range w.Config().Muts {
		for !w.Shared().Board.Answered(id) {
			picks(t, w, id)
		}
	}
}

// objects holds what there is against what there should be.
func objects(t *testing.T, w *world.World, want ...int) {
	t.Helper()
	same(t, "Objects", w.Shared().Heap.Objects(), want...)
}

// codes holds the errors of a mutator's operations against what they should be.
func codes(t *testing.T, w *world.World, id int, want ...api.Errno) {
	t.Helper()
	var l []api.Errno
	for _, r := range w.Mut(id).Results() {
		l = append(l, r.Code)
	}
	same(t, "the errors", l, want...)
}

// The chapter's example.
func TestExample(t *testing.T) {
	w := made(t, lone())
	picks(t, w, 2, 1)
	same(t, "Events", w.Events(), api.Event{Pick: 1, Who: 1, Kind: api.Start, Value: 1})
}

// The first example of the whole: what a field has stays.
func TestStays(t *testing.T) {
	w := made(t, lone(), lines(t, "alloc 0 1", "alloc 1 1", "store 0 0 1", "drop 1"))
	done(t, w)
	cycle(t, w)
	objects(t, w, 1, 3)
}

// The second one: and goes behind another cycle, when nothing reaches it any more.
func TestGoes(t *testing.T) {
	w := made(t, lone(), lines(t, "alloc 0 1", "alloc 1 1", "store 0 0 1", "drop 1", "drop 0"))
	until(t, w, "the first drop", func() bool { return len(w.Mut(0).Results()) == 4 })
	cycle(t, w) // while the last drop is done
	done(t, w)
	cycle(t, w)
	objects(t, w)
	if w.Coll().Cycles() != 2 {
		t.Error("Cycles:", w.Coll().Cycles())
	}
}

// The third one: a loop that nothing reaches is freed by one cycle.
func TestLoop(t *testing.T) {
	w := made(t, lone(), lines(t, "alloc 0 1", "alloc 1 1", "store 0 0 1", "store 1 0 0", "drop 0", "drop 1"))
	done(t, w)
	objects(t, w, 1, 3)
	cycle(t, w)
	objects(t, w)
}

// The fourth one: what a register has stays, though the cell that it was got from is overwritten at once, by whatever pick of a cycle that is.
func TestGetAndOverwrite(t *testing.T) {
	phases := map[int]bool{}
	for when := range 80 {
		w := made(t, small(), lines(t, "alloc 0 0", "set 0 0", "drop 0", "set 0 1"), lines(t, "get 2 0", "drop 2"))
		does(t, w, 0, 3)
		a := w.Mut(0).Results()[0].Value
		picks(t, w, 3)
		for range when {
			collects(t, w)
		}
		phases[w.Coll().Phase()] = true
		does(t, w, 1, 1)
		does(t, w, 0, 4)
		for range 2 {
			for !w.Idle() {
				objects(t, w, a)
				collects(t, w)
			}
			objects(t, w, a)
			picks(t, w, 3)
		}
		same(t, "Regs", w.Mut(1).Regs(), 0, 0, a)
		does(t, w, 1, 2)
		for range 2 {
			cycle(t, w)
		}
		objects(t, w)
	}
	if len(phases) != 8 {
		t.Error("just by these phases:", phases)
	}
}

// The fifth one: with a Stack of 1 and a Log of 1 a list of thirty objects is marked whole.
func TestLongList(t *testing.T) {
	c := api.Config{Blocks: 4, Words: 16, Muts: 1, Regs: 2, Cells: 1, Log: 1, Stack: 1}
	var l []string
	for range 30 {
		l = append(l, "alloc 1 1", "store 1 0 0", "move 0 1")
	}
	w := made(t, c, lines(t, append(l, "set 0 0", "drop 0", "drop 1")...))
	done(t, w)
	was := w.Shared().Heap.Objects()
	for n := range 3 {
		cycle(t, w)
		objects(t, w, was...)
		if len(was) != 30 || w.Coll().Cycles() != n+1 {
			t.Error("Cycles:", w.Coll().Cycles(), len(was))
		}
	}
}

// The sixth one: what is made in a phase from Trace on has the collector's color.
func TestAllocInAPhase(t *testing.T) {
	for _, phase := range []int{api.Trace, api.Drain, api.Sweep, api.Off} {
		w := made(t, lone(), lines(t, "alloc 0 1"))
		picks(t, w, 2)
		for w.Coll().Phase() != phase {
			collects(t, w)
		}
		does(t, w, 0, 1)
		a := w.Mut(0).Regs()[0]
		if k, e := w.Shared().Heap.Color(a); k != w.Coll().Color() || k != 1 || e != api.OK {
			t.Errorf("by the phase %d: the color %d, %d", phase, k, e)
		}
		until(t, w, "rest", w.Idle)
		objects(t, w, a)
	}
}

// The seventh one.
func TestNoObjectNoField(t *testing.T) {
	w := made(t, lone(), lines(t, "load 0 1 0", "alloc 0 1", "store 0 9 0", "store 0 -1 0", "store 0 1 0", "load 0 0 1", "store 0 0 0"))
	done(t, w)
	codes(t, w, 0, api.ErrNil, api.OK, api.ErrField, api.ErrField, api.ErrField, api.ErrField, api.OK)
	if e := w.Events()[0]; e.Kind != api.Did || e.Op != 0 || e.Code != api.ErrNil || e.Value != 0 {
		t.Error("the first one:", e)
	}
}

// The eighth one.
func TestNoMemory(t *testing.T) {
	c := lone()
	c.Blocks = 1
	var l []string
	for range 9 {
		l = append(l, "alloc 0 1")
	}
	w := made(t, c, lines(t, append(l, "alloc 0 16", "alloc 0 3", "alloc 0 0", "alloc 0 3")...))
	does(t, w, 0, 11)
	codes(t, w, 0, 0, 0, 0, 0, 0, 0, 0, 0, api.ErrMemory, api.ErrSize, api.ErrMemory)
	a := w.Mut(0).Regs()[0]
	picks(t, w, 2)
	for !w.Idle() {
		collects(t, w)
	}
	objects(t, w, a)
	does(t, w, 0, 13) // now there are free slots, but just of the one class
	codes(t, w, 0, 0, 0, 0, 0, 0, 0, 0, 0, api.ErrMemory, api.ErrSize, api.ErrMemory, 0, api.ErrMemory)
	cycle(t, w)
	objects(t, w, w.Mut(0).Regs()[0])
}

// The ninth one: a mutator that isn't picked lets no other one wait, but no cycle ends.
func TestNotPicked(t *testing.T) {
	for who := range 3 {
		c := small()
		c.Muts = 3
		var programs [][]api.Op
		for id := range c.Muts {
			programs = append(programs, lines(t, "alloc 0 1", "alloc 1 1", "store 0 0 1", "set "+strconv.Itoa(id%2)+" 0", "drop 0", "get 2 0"))
		}
		w := made(t, c, programs...)
		picks(t, w, 4)
		for range 300 {
			for id := range 4 {
				if id != who {
					picks(t, w, id)
				}
			}
		}
		if w.Coll().Phase() != api.Arm || w.Idle() || w.Done() || len(w.Mut(who).Results()) != 0 {
			t.Error("the phase", w.Coll().Phase())
		}
		for id := range 3 {
			if w.Mut(id).Done() == (id == who) {
				t.Errorf("without %d: the mutator %d is done: %v", who, id, w.Mut(id).Done())
			}
		}
		until(t, w, "rest", w.Idle)
		done(t, w)
	}
}
