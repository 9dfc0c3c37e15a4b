package collector_test

import (
	"slices"
	"testing"

	"dustpan/api"
)

// Two objects, one in a cell: behind a cycle the other one is freed.
func TestFrees(t *testing.T) {
	m := with(t, small())
	a, b := object(t, m.Heap), object(t, m.Heap)
	m.sets(t, 0, b)
	m.coll.Wish()
	l := m.until(t, api.Rested)
	if len(l) != 4 || l[2] != (api.Event{Who: 2, Kind: api.Freed, Value: a}) {
		t.Error("events:", l)
	}
	if m.Heap.Is(a) || !m.Heap.Is(b) || !slices.Contains(m.Heap.Frees(0), a) {
		t.Error("Objects:", m.Heap.Objects())
	}
}

// Without a block nothing is swept.
func TestFreesNothing(t *testing.T) {
	m := with(t, small())
	m.sets(t, 0, 0)
	if l := m.cycle(t); len(l) != 0 {
		t.Error("freed:", l)
	}
}

// Each block that is assigned is put by a pick of its own, rising.
func TestPuts(t *testing.T) {
	c := small()
	c.Blocks = 9
	m := with(t, c)
	for _, class := range []int{2, 0, 3, 2, 2, 0, 1} {
		m.Heap.Assign(class)
	}
	m.marks(t)
	if m.coll.Phase() != api.Sweep || !m.Queue.Rests() {
		t.Fatal("put ahead")
	}
	var lens [api.Classes]int
	for b, class := range []int{2, 0, 3, 2, 2, 0, 1} {
		m.quiet(t, 1)
		lens[class]++
		for k, n := range lens {
			if m.Queue.Len(k) != n || m.Queue.Open() != 0 {
				t.Fatalf("behind the block %d of the class %d wait %d", b, k, m.Queue.Len(k))
			}
		}
	}
	for class, want := range [][]int{{1, 5}, {6}, {0, 3, 4}, {2}} {
		for _, b := range want {
			if got, e := m.Queue.Take(class); got != b || e != api.OK {
				t.Errorf("of the class %d: %d, %d; want %d", class, got, e, b)
			}
		}
	}
}

// A block is swept slot by slot, one at a pick: what is free, in hand, or of the color stays.
func TestSlotBySlot(t *testing.T) {
	m := with(t, lone())
	var l []int
	for range 8 {
		l = append(l, object(t, m.Heap))
	}
	m.sets(t, l[5])
	m.Heap.Free(l[2])
	m.Heap.Free(l[4])
	hand, _ := m.Heap.Take(0)
	m.marks(t)
	m.quiet(t, 1)
	if m.Queue.Open() != 0 || m.Queue.Len(0) != 1 {
		t.Fatal("not put")
	}
	m.quiet(t, 1)
	if m.Queue.Open() != 1 || m.Queue.Len(0) != 0 {
		t.Fatal("not taken")
	}
	for i, a := range l {
		stays := i == 2 || i == 4 || i == 5
		want := api.Event{Who: 1, Kind: api.Freed, Value: a}
		if stays {
			want = api.Event{}
		}
		if e, ok := m.coll.Pick(); e != want || ok == stays {
			t.Fatalf("the slot %d: %v, %v", i, e, ok)
		}
		if m.Queue.Open() != 1 {
			t.Fatal("done ahead")
		}
	}
	m.quiet(t, 1)
	if !m.Queue.Rests() || m.coll.Phase() != api.Sweep {
		t.Fatal("the queue isn't told")
	}
	m.until(t, api.Rested)
	same(t, "Objects", m.Heap.Objects(), l[5])
	same(t, "Hands", m.Heap.Hands(), hand)
}

// Blocks are swept by the least class first, and of one class in their order.
func TestBlocksInOrder(t *testing.T) {
	c := small()
	c.Blocks, c.Words = 6, 32
	m := with(t, c)
	var want [api.Classes][]int
	for _, fields := range []int{9, 1, 4, 2, 9, 9, 0, 1, 5} {
		a, e := m.Heap.Make(fields, 0)
		if e != api.OK {
			t.Fatal("Make:", e)
		}
		_, class, _ := m.Heap.Table().Owner(a)
		want[class] = append(want[class], a)
	}
	same(t, "freed", m.cycle(t), slices.Concat(want[:]...)...)
}

// Off isn't asked of before all blocks are done, those that others have taken, too.
func TestWaitsForOthers(t *testing.T) {
	m := with(t, small())
	a := object(t, m.Heap)
	b := object(t, m.Heap, 0, 0)
	m.marks(t)
	m.quiet(t, 2)
	if k, e := m.Queue.Take(1); k != 1 || e != api.OK {
		t.Fatal("Take:", k, e)
	}
	var l []int
	for range 200 {
		if e, ok := m.round(); ok {
			l = append(l, e.Value)
		}
	}
	same(t, "freed", l, a)
	if m.coll.Phase() != api.Sweep || !m.coll.Busy() || m.Queue.Open() != 1 || !m.Heap.Is(b) {
		t.Fatal("the phase", m.coll.Phase())
	}
	m.Queue.Done()
	m.until(t, api.Rested)
	if !m.Heap.Is(b) {
		t.Error("swept twice")
	}
}

// Mutators sweep blocks themselves, when they need slots; collector and mutators free each just once.
func TestMutatorsSweep(t *testing.T) {
	c := small()
	c.Blocks = 3
	m := with(t, c, lines(t, "safe", "alloc 0 1", "alloc 1 1", "alloc 2 1"))
	for range 24 {
		object(t, m.Heap, 0)
	}
	lays(t, m.Heap, 17, 0, 35) // of the second block, to one of the third
	m.sets(t, 17)
	m.coll.Wish()
	m.hold(t, api.Sweep)
	m.quiet(t, 3) // all three blocks wait
	var l []int
	goes(t, "three ends", func() bool { return len(m.muts[0].Results()) == 3 }, func() {
		if e, ok := m.muts[0].Pick(); ok && e.Kind == api.Freed {
			l = append(l, e.Value)
		}
	})
	if len(l) != 8 || m.muts[0].Results()[1].Code != api.OK {
		t.Fatal("the mutator freed", l, m.muts[0].Results())
	}
	l = append(l, freed(m.until(t, api.Rested))...)
	slices.Sort(l)
	if len(l) != 22 || len(slices.Compact(l)) != 22 || slices.Contains(l, 17) || slices.Contains(l, 35) {
		t.Error("freed:", l)
	}
	m.does(t, 0, 4)
	left := append(m.muts[0].Regs(), 17, 35)
	slices.Sort(left)
	same(t, "Objects", m.Heap.Objects(), left...)
}

// What is born by a mutator that has answered Scan has the collector's color, and stays for that cycle, in whichever block it is, though nothing reaches it.
func TestBornInACycle(t *testing.T) {
	for _, phase := range []int{api.Trace, api.Drain, api.Sweep, api.Off} {
		c := small()
		c.Blocks = 9
		m := with(t, c, lines(t, "alloc 0 1", "alloc 1 3", "alloc 2 9", "drop 0", "drop 1", "drop 2"))
		object(t, m.Heap, 0)
		m.coll.Wish()
		m.hold(t, phase)
		m.does(t, 0, 6)
		var born []int
		for _, r := range m.muts[0].Results()[:3] {
			born = append(born, r.Value)
			if m.color(r.Value) != 1 || m.coll.Color() != 1 {
				t.Fatalf("by the phase %d: the color %d", phase, m.color(r.Value))
			}
		}
		m.until(t, api.Rested)
		slices.Sort(born)
		same(t, "Objects", m.Heap.Objects(), born...)
		if l := m.cycle(t); len(l) != 3 {
			t.Error("freed by the next one:", l)
		}
	}
}

// An object that is reached just from another one, a loop that nothing reaches, and what registers forget.
func TestExamples(t *testing.T) {
	m := with(t, lone(), lines(t, "alloc 0 1", "alloc 1 1", "store 0 0 1", "drop 1", "safe", "drop 0"))
	m.does(t, 0, 4)
	m.coll.Wish()
	m.hold(t, api.Off)
	m.hold(t, api.Idle)
	same(t, "Objects", m.Heap.Objects(), 1, 3)
	m.does(t, 0, 6)
	same(t, "freed", m.cycle(t), 1, 3)
	a := object(t, m.Heap, 0)
	b := object(t, m.Heap, a)
	lays(t, m.Heap, a, 0, b)
	if l := m.cycle(t); len(l) != 2 {
		t.Error("of a loop is freed:", l)
	}
}

// What one mutator gets from a cell that another one overwrites at once stays as long as a register has it, in whichever phase that is.
func TestGotAndOverwritten(t *testing.T) {
	for phase := api.Arm; phase <= api.Off; phase++ {
		m := with(t, small(), lines(t, "get 0 0", "safe", "drop 0"), lines(t, "set 0 2"))
		a := object(t, m.Heap, object(t, m.Heap))
		m.sets(t, a)
		m.coll.Wish()
		m.hold(t, phase)
		m.does(t, 0, 1)
		m.does(t, 1, 1)
		m.until(t, api.Rested)
		if len(m.Heap.Objects()) != 2 {
			t.Fatalf("by the phase %d is freed what a register has", phase)
		}
		m.does(t, 0, 3)
		if l := m.cycle(t); len(l) != 2 {
			t.Error("freed:", l)
		}
	}
}
