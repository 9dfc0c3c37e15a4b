package collector_test

import (
	"slices"
	"testing"

	"dustpan/api"
	"dustpan/mutator"
	"dustpan/phase"
)

// A cycle of 1 mutator that answers at once, pick by pick of the collector: the phase behind each, and how many picks have it.
func TestEachPick(t *testing.T) {
	m := with(t, lone())
	b := object(t, m.Heap, 0)
	a := object(t, m.Heap, b)
	gone := object(t, m.Heap, a)
	m.sets(t, a)
	m.coll.Wish()
	type run struct{ phase, picks int }
	var got []run
	var events []api.Event
	goes(t, "rest", func() bool { return !m.coll.Wishes() && !m.coll.Busy() }, func() {
		if e, ok := m.coll.Pick(); ok {
			events = append(events, e)
		}
		m.muts[0].Pick()
		m.muts[0].Pick()
		if n := len(got); n == 0 || got[n-1].phase != m.coll.Phase() {
			got = append(got, run{phase: m.coll.Phase()})
		}
		got[len(got)-1].picks++
	})
	want := []run{
		{api.Arm, 2}, // asked, and looked at the mutator; so are the next two
		{api.Sync, 2},
		{api.Scan, 2},
		{api.Trace, 10}, // so from now on; the cell, which is painted; popped, its field, which is painted; popped, its field; a box, the flag
		{api.Drain, 4},  // asked, and looked at the mutator; a box, the flag
		{api.Sweep, 14}, // marked; a block put, taken, its 8 slots, done; none waits, all rests
		{api.Off, 2},
		{api.Idle, 1},
	}
	if !slices.Equal(got, want) {
		t.Errorf("%v; want %v", got, want)
	}
	told := []api.Event{{Who: 1, Kind: api.Start, Value: 1}, {Who: 1, Kind: api.Marked, Value: 1}, {Who: 1, Kind: api.Freed, Value: gone}, {Who: 1, Kind: api.Rested, Value: 1}}
	if !slices.Equal(events, told) {
		t.Errorf("%v; want %v", events, told)
	}
	same(t, "Objects", m.Heap.Objects(), b, a)
	m.rounds(t, 1, 0)
}

// Cycles have numbers, the color is the other one by each, and the phases come as they may.
func TestCycles(t *testing.T) {
	m := with(t, small())
	a := object(t, m.Heap)
	m.sets(t, 0, a)
	for n := 1; n <= 4; n++ {
		m.coll.Wish()
		path := []int{api.Idle}
		var events []api.Event
		for range 1000 {
			e, ok := m.round()
			if ok {
				events = append(events, e)
			}
			if p := m.coll.Phase(); p != path[len(path)-1] {
				path = append(path, p)
			}
			if ok && e.Kind == api.Marked && m.coll.Phase() != api.Sweep {
				t.Error("Marked, but the phase is", m.coll.Phase())
			}
			if ok && e.Kind == api.Rested {
				break
			}
		}
		want := []api.Event{{Who: 2, Kind: api.Start, Value: n}, {Who: 2, Kind: api.Marked, Value: n}, {Who: 2, Kind: api.Rested, Value: n}}
		if !slices.Equal(events, want) {
			t.Fatalf("%v; want %v", events, want)
		}
		if !phase.Path(path...) || len(path) != 9 {
			t.Error("the phases:", path)
		}
		if m.coll.Phase() != api.Idle || m.coll.Busy() || m.coll.Color() != n%2 || m.coll.Cycles() != n {
			t.Error("behind the cycle", n, m.coll.Phase(), m.coll.Color(), m.coll.Cycles())
		}
		for _, one := range m.muts {
			if one.Color() != n%2 || one.Mode() != mutator.Off {
				t.Error("a mutator's color, or its mode:", one.Color(), one.Mode())
			}
		}
		if k, e := m.Heap.Color(a); k != n%2 || e != api.OK {
			t.Error("the object:", k, e)
		}
		m.rounds(t, n, 0)
		m.quiet(t, 20)
	}
}

// A wish in the midst of a cycle is kept till that has ended, and is one wish, however often it is wished.
func TestWishInTheMidst(t *testing.T) {
	m := with(t, small())
	m.coll.Wish()
	m.coll.Pick()
	m.coll.Wish()
	m.coll.Wish()
	if e := m.until(t, api.Rested); len(e) != 2 || !m.coll.Wishes() || m.coll.Busy() || m.coll.Cycles() != 1 {
		t.Fatal("the first cycle:", e, m.coll.Wishes(), m.coll.Cycles())
	}
	if e, ok := m.coll.Pick(); !ok || e.Kind != api.Start || e.Value != 2 || m.coll.Wishes() {
		t.Fatal("the second one:", e, ok)
	}
	m.until(t, api.Rested)
	m.quiet(t, 20)
	if m.coll.Cycles() != 2 {
		t.Error("Cycles:", m.coll.Cycles())
	}
}

// By each request it goes on when the last mutator has answered, whoever that is, and not ahead of that.
func TestWaitsForEach(t *testing.T) {
	c := small()
	c.Muts = 3
	for last := range 3 {
		m := with(t, c)
		m.coll.Wish()
		for _, p := range []struct{ kind, next int }{{api.Arm, api.Sync}, {api.Sync, api.Scan}, {api.Scan, api.Trace}, {api.Drain, api.Sweep}, {api.Off, api.Idle}} {
			goes(t, "the next phase", m.in(p.kind), func() { m.coll.Pick() })
			count := m.Board.Count()
			for id, one := range m.muts {
				if kind, owes := m.Board.Pending(id); kind != p.kind || !owes {
					t.Fatalf("by the phase %d the mutator %d is asked of %d, %v", p.kind, id, kind, owes)
				}
				if id != last {
					one.Pick()
					one.Pick()
				}
			}
			m.quiet(t, 50)
			if m.coll.Phase() != p.kind || m.Board.Count() != count || !m.coll.Busy() {
				t.Fatalf("%d: the phase %d goes on without an answer", last, p.kind)
			}
			m.muts[last].Pick()
			m.muts[last].Pick()
			if !m.Board.All() {
				t.Fatal("not all have answered")
			}
			goes(t, "the phase behind that", m.in(p.next), func() { m.coll.Pick() })
		}
	}
}

// Each mutator is looked at by a pick of its own, and they are asked by one behind that.
func TestLooksMutatorByMutator(t *testing.T) {
	c := small()
	c.Muts = 5
	m := with(t, c)
	m.coll.Wish()
	m.coll.Pick()
	for _, one := range m.muts {
		one.Pick()
		one.Pick()
	}
	m.quiet(t, 5)
	if m.coll.Phase() != api.Arm || m.Board.Count() != 1 {
		t.Error("asked ahead:", m.coll.Phase())
	}
	m.quiet(t, 1)
	if m.coll.Phase() != api.Sync || m.Board.Count() != 2 {
		t.Error("not asked:", m.coll.Phase())
	}
}

// A mutator that isn't picked lets no other one wait, but no cycle ends.
func TestWithoutAnAnswer(t *testing.T) {
	m := with(t, small(), lines(t, "alloc 0 1", "alloc 1 1", "store 0 0 1", "set 0 0", "drop 0", "get 2 0"))
	m.coll.Wish()
	for range 200 {
		m.coll.Pick()
		m.muts[0].Pick()
	}
	if m.coll.Phase() != api.Arm || !m.coll.Busy() || !m.muts[0].Done() {
		t.Fatal("the phase", m.coll.Phase(), m.muts[0].Results())
	}
	same(t, "Regs", m.muts[0].Regs(), 0, 3, 1)
	m.until(t, api.Rested)
	same(t, "Objects", m.Heap.Objects(), 1, 3)
}
