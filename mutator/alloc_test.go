package mutator_test

import (
	"testing"

	"dustpan/api"
	"dustpan/class"
	"dustpan/heap"
)

// one is a config of one block.
func one() api.Config {
	c := small()
	c.Blocks = 1
	return c
}

// fills makes objects of the color 1, as long as there is a slot that is free, or a block.
func fills(h *heap.Heap, fields int) []int {
	var l []int
	for {
		a, e := h.Make(fields, 1)
		if e != api.OK {
			return l
		}
		l = append(l, a)
	}
}

// Each number of fields has the least class that has room.
func TestAllocOfEachSize(t *testing.T) {
	for n := range api.MaxFields + 1 {
		s := share(t, small())
		k, _ := class.Of(n)
		size := class.Size(k)
		slots := 16 / size
		m := with(t, s, 0, []api.Op{{Kind: api.Alloc, A: 1, B: n}, {Kind: api.Alloc, A: 2, B: n}})
		// Begun, no free slot, assigned, the others put, its header laid, each field, born.
		ends(t, m, 1+1+1+slots-1+1+n+1, api.Event{Value: 1})
		if has, e := s.Heap.Fields(1); has != n || e != api.OK || !s.Heap.Is(1) || len(s.Heap.Frees(k)) != slots-1 {
			t.Fatalf("of %d fields: %d, %d; free: %v", n, has, e, s.Heap.Frees(k))
		}
		if slots > 1 {
			// Begun, taken, its header laid, each field, born.
			ends(t, m, 1+1+1+n+1, api.Event{Op: 1, Value: 1 + size})
			same(t, "Regs", m.Regs(), 0, 1, 1+size)
		}
	}
}

// A slot is in hand till it is born, and born by the pick that ends the operation.
func TestAllocStepByStep(t *testing.T) {
	s := share(t, small())
	m := made(t, s, 1, "alloc 2 2")
	h := s.Heap
	at := func(assigned int, objects, hands, frees []int) {
		t.Helper()
		if k := len(h.Table().Of(1)); k != assigned {
			t.Fatalf("%d blocks are assigned; want %d", k, assigned)
		}
		same(t, "Objects", h.Objects(), objects...)
		same(t, "Hands", h.Hands(), hands...)
		same(t, "Frees", h.Frees(1), frees...)
	}
	quiet(t, m, 2)
	at(0, nil, nil, nil)
	quiet(t, m, 1)
	at(1, nil, []int{1, 5, 9, 13}, nil)
	quiet(t, m, 1)
	at(1, nil, []int{1, 5, 9}, []int{13})
	quiet(t, m, 1)
	at(1, nil, []int{1, 5}, []int{9, 13})
	quiet(t, m, 1)
	at(1, nil, []int{1}, []int{5, 9, 13})
	if _, e := h.Fields(1); e == api.OK {
		t.Fatal("begun ahead")
	}
	quiet(t, m, 1)
	if k, e := h.Fields(1); k != 2 || e != api.OK {
		t.Fatal("not begun:", k, e)
	}
	for field := range 2 {
		h.Store(1, 0, 9)
		h.Store(1, 1, 9)
		quiet(t, m, 1)
		for other := range 2 {
			want := 9
			if other == field {
				want = 0
			}
			if v, _ := h.Load(1, other); v != want {
				t.Fatalf("behind the field %d the field %d is %d", field, other, v)
			}
		}
	}
	at(1, nil, []int{1}, []int{5, 9, 13})
	same(t, "Regs", m.Regs(), 0, 0, 0)
	ends(t, m, 1, api.Event{Who: 1, Value: 1})
	at(1, []int{1}, nil, []int{5, 9, 13})
	same(t, "Regs", m.Regs(), 0, 0, 1)
}

// A slot that was an object's has fields of 0 behind an alloc.
func TestAllocLaysFields(t *testing.T) {
	s := share(t, one())
	for _, a := range fills(s.Heap, 3) {
		for field := range 3 {
			s.Heap.Store(a, field, a)
		}
		s.Heap.Free(a)
	}
	m := made(t, s, 0, "alloc 0 3", "alloc 0 2", "alloc 0 3")
	runs(t, m)
	for _, a := range s.Heap.Objects() {
		n, _ := s.Heap.Fields(a)
		for field := range n {
			if v, e := s.Heap.Load(a, field); v != 0 || e != api.OK {
				t.Errorf("the field %d of %d: %d, %d", field, a, v, e)
			}
		}
	}
}

// An object has the mutator's color, which is another one behind Scan.
func TestAllocsColor(t *testing.T) {
	s := share(t, small())
	m := made(t, s, 0, "alloc 0 0", "alloc 0 0", "alloc 0 0", "alloc 0 0")
	color := func(want int) {
		t.Helper()
		place := len(m.Results())
		for len(m.Results()) == place {
			m.Pick()
		}
		if k, e := s.Heap.Color(m.Regs()[0]); k != want || e != api.OK || m.Color() != want {
			t.Fatalf("the color: %d, %d; the mutator's %d; want %d", k, e, m.Color(), want)
		}
	}
	color(0)
	logs(t, s, m, api.Arm, api.Sync)
	color(0)
	logs(t, s, m, api.Scan)
	color(1)
	logs(t, s, m, api.Drain, api.Off)
	color(1)
}

// Free slots of other classes are of no use, but blocks that aren't assigned are.
func TestAllocWithoutASlot(t *testing.T) {
	s := share(t, one())
	m := made(t, s, 0, "alloc 0 7", "alloc 0 1", "alloc 0 7", "alloc 1 7", "drop 2")
	ends(t, m, 13, api.Event{Value: 1})
	ends(t, m, 5, api.Event{Op: 1, Code: api.ErrMemory}) // begun, no slot, no block, none to be swept, no slot
	ends(t, m, 11, api.Event{Op: 2, Value: 9})
	ends(t, m, 5, api.Event{Op: 3, Code: api.ErrMemory})
	same(t, "Regs", m.Regs(), 9, 0, 0)
	runs(t, m)
}

// A slot that others free, while all else is looked for, isn't refused.
func TestAllocLooksOnceMore(t *testing.T) {
	for picks := 1; picks < 5; picks++ {
		s := share(t, one())
		l := fills(s.Heap, 1)
		m := made(t, s, 0, "alloc 0 1")
		quiet(t, m, picks)
		s.Heap.Free(l[3])
		runs(t, m)
		if r := m.Results()[0]; r.Code != api.OK || r.Value != l[3] {
			t.Errorf("freed behind %d picks: %v", picks, r)
		}
	}
}

// A block that waits is swept by the mutator's color, slot by slot, and its first slot that is put last is taken.
func TestAllocSweeps(t *testing.T) {
	s := share(t, one())
	l := fills(s.Heap, 3)
	s.Heap.Paint(l[1], 0)
	s.Queue.Put(1, 0)
	m := made(t, s, 1, "alloc 0 2")
	quiet(t, m, 3)
	if s.Queue.Open() != 0 || s.Queue.Len(1) != 1 {
		t.Fatal("taken ahead")
	}
	quiet(t, m, 1)
	if s.Queue.Open() != 1 || s.Queue.Len(1) != 0 {
		t.Fatal("not taken")
	}
	for i, a := range l {
		e, ok := m.Pick()
		want := api.Event{Who: 1, Kind: api.Freed, Value: a}
		if i == 1 {
			want = api.Event{} // it has the mutator's color
		}
		if e != want || ok != (i != 1) || s.Heap.Is(a) != (i == 1) || s.Queue.Open() != 1 {
			t.Fatalf("the slot %d: %v, %v; open: %d", i, e, ok, s.Queue.Open())
		}
	}
	quiet(t, m, 1)
	if !s.Queue.Rests() {
		t.Fatal("the queue isn't told")
	}
	// Taken, its header laid, two fields, born.
	ends(t, m, 5, api.Event{Who: 1, Value: l[3]})
	same(t, "Objects", s.Heap.Objects(), l[1], l[3])
	if o, a := m.Most(); o != 4+4+1+5 || a != 0 {
		t.Error("Most:", o, a)
	}
}

// By the color behind Scan, it is that by which is swept.
func TestAllocSweepsByItsColor(t *testing.T) {
	s := share(t, one())
	l := fills(s.Heap, 7)
	s.Heap.Paint(l[1], 0)
	m := made(t, s, 0, "alloc 0 7")
	logs(t, s, m, api.Arm, api.Sync, api.Scan)
	s.Queue.Put(2, 0)
	runs(t, m)
	same(t, "Objects", s.Heap.Objects(), l...)
	if k, _ := s.Heap.Color(l[1]); m.Regs()[0] != l[1] || k != 1 {
		t.Error("Regs:", m.Regs(), k)
	}
}

// Ahead of Scan that isn't the color that is to be.
func TestAllocSweepsByItsColorAheadOfScan(t *testing.T) {
	s := share(t, one())
	l := fills(s.Heap, 7)
	s.Heap.Paint(l[1], 0)
	m := made(t, s, 0, "alloc 0 7")
	logs(t, s, m, api.Arm)
	s.Queue.Put(2, 0)
	runs(t, m)
	if k, _ := s.Heap.Color(l[0]); m.Regs()[0] != l[0] || k != 0 || !s.Heap.Is(l[1]) {
		t.Error("Regs:", m.Regs(), k)
	}
}

// One block is swept, of its own class; if that has freed nothing, memory is refused.
func TestAllocSweepsOneBlock(t *testing.T) {
	c := small()
	c.Blocks = 3
	s := share(t, c)
	wide, _ := s.Heap.Make(9, 0)
	l := fills(s.Heap, 3)
	for _, a := range l[:4] {
		s.Heap.Paint(a, 0)
	}
	s.Queue.Put(3, 0)
	s.Queue.Put(1, 1)
	s.Queue.Put(1, 2)
	m := made(t, s, 0, "alloc 0 3", "alloc 0 3", "alloc 0 3")
	ends(t, m, 4+4+1+1, api.Event{Code: api.ErrMemory})
	if s.Queue.Open() != 0 || s.Queue.Len(1) != 1 || s.Queue.Len(3) != 1 {
		t.Fatal("another block is taken, or the queue isn't told")
	}
	runs(t, m)
	if r := m.Results(); r[1].Code != api.OK || r[2].Code != api.OK || len(s.Heap.Frees(1)) != 2 || !s.Heap.Is(wide) {
		t.Error("of the other block:", r, s.Heap.Frees(1))
	}
}

// As long as there is a free slot, or a block, none is swept.
func TestAllocSweepsLast(t *testing.T) {
	c := small()
	c.Blocks = 2
	s := share(t, c)
	a, _ := s.Heap.Make(7, 1)
	s.Queue.Put(2, 0)
	m := made(t, s, 0, "alloc 0 7", "alloc 0 7", "alloc 0 7", "alloc 0 7")
	for range 3 {
		place := len(m.Results())
		for len(m.Results()) == place {
			m.Pick()
		}
		if s.Queue.Len(2) != 1 || !s.Heap.Is(a) {
			t.Fatal("a block is swept that wasn't needed")
		}
	}
	runs(t, m)
	if r := m.Results(); r[3].Value != a || !s.Queue.Rests() {
		t.Error("Results:", r)
	}
}

// What is in somebody's hand stays there when its block is swept.
func TestAllocSweepsAroundHands(t *testing.T) {
	s := share(t, one())
	l := fills(s.Heap, 7)
	s.Heap.Free(l[0])
	x, y := made(t, s, 0, "alloc 0 7"), made(t, s, 1, "alloc 0 7")
	quiet(t, x, 3) // taken, and begun
	s.Queue.Put(2, 0)
	runs(t, y)
	runs(t, x)
	if x.Regs()[0] != l[0] || y.Regs()[0] != l[1] {
		t.Error("Regs:", x.Regs(), y.Regs())
	}
}
