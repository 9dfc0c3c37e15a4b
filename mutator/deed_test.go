package mutator_test

import (
	"math"
	"testing"

	"dustpan/api"
	"dustpan/mutator"
)

// logs has the mutator 0 of two answer a request, as the other one does at once.
func logs(t *testing.T, s *mutator.Shared, m *mutator.Mut, kinds ...int) {
	t.Helper()
	for _, kind := range kinds {
		if e := s.Board.Ask(kind); e != api.OK {
			t.Fatalf("Ask(%d): %d", kind, e)
		}
		s.Board.Answer(1)
		for range 1000 {
			if s.Board.All() {
				break
			}
			quiet(t, m, 1)
		}
		if !s.Board.All() || m.Busy() {
			t.Fatalf("%d isn't answered, or it is busy behind that", kind)
		}
	}
}

// wrong has an operation that isn't in any program's text: it ends with an error, and changes nothing.
func wrong(t *testing.T, o api.Op, want api.Errno, first ...string) {
	t.Helper()
	s := share(t, small())
	l := program(t, first...)
	m, e := mutator.New(s, 0, append(l, o)...)
	if e != api.OK {
		t.Fatal("New:", e)
	}
	for len(m.Results()) < len(l) {
		m.Pick()
	}
	regs := m.Regs()
	objects := len(s.Heap.Objects())
	ends(t, m, 2, api.Event{Op: len(l), Code: want})
	same(t, "Regs", m.Regs(), regs...)
	if len(s.Heap.Objects()) != objects {
		t.Error("an operation that is refused made something")
	}
	if got := m.Results()[len(l)]; got != (mutator.Result{Code: want}) {
		t.Errorf("%v: %v; want %d", o, got, want)
	}
}

// An operation whose Check isn't OK ends with that.
func TestChecked(t *testing.T) {
	for _, n := range []int{math.MinInt, -1, 3, 64, math.MaxInt} {
		wrong(t, api.Op{Kind: api.Alloc, A: n, B: 99}, api.ErrReg)
		wrong(t, api.Op{Kind: api.Load, A: n, B: 0}, api.ErrReg)
		wrong(t, api.Op{Kind: api.Load, A: 0, B: n}, api.ErrReg)
		wrong(t, api.Op{Kind: api.Store, A: n, C: 0}, api.ErrReg)
		wrong(t, api.Op{Kind: api.Store, A: 0, B: 9, C: n}, api.ErrReg, "alloc 0 1")
		wrong(t, api.Op{Kind: api.Get, A: n}, api.ErrReg)
		wrong(t, api.Op{Kind: api.Set, B: n}, api.ErrReg)
		wrong(t, api.Op{Kind: api.Drop, A: n}, api.ErrReg)
		wrong(t, api.Op{Kind: api.Move, A: n}, api.ErrReg)
		wrong(t, api.Op{Kind: api.Move, B: n}, api.ErrReg)
	}
	for _, n := range []int{math.MinInt, -1, 2, math.MaxInt} {
		wrong(t, api.Op{Kind: api.Get, B: n}, api.ErrCell)
		wrong(t, api.Op{Kind: api.Set, A: n}, api.ErrCell)
	}
	for _, n := range []int{math.MinInt, -1, 16, math.MaxInt} {
		wrong(t, api.Op{Kind: api.Alloc, B: n}, api.ErrSize)
	}
	for _, n := range []int{math.MinInt, -1, 0, 9, math.MaxInt} {
		wrong(t, api.Op{Kind: n}, api.ErrArg)
	}
}

// Load and Store go by an object that a register has, and by a field that it has.
func TestNilsAndFields(t *testing.T) {
	for _, field := range []int{math.MinInt, -1, 0, 1, math.MaxInt} {
		wrong(t, api.Op{Kind: api.Load, A: 0, B: 2, C: field}, api.ErrNil, "alloc 0 1")
		wrong(t, api.Op{Kind: api.Store, A: 2, B: field, C: 0}, api.ErrNil, "alloc 0 1")
	}
	for _, field := range []int{math.MinInt, -1, 2, 3, math.MaxInt} {
		wrong(t, api.Op{Kind: api.Load, A: 1, B: 0, C: field}, api.ErrField, "alloc 0 2")
		wrong(t, api.Op{Kind: api.Store, A: 0, B: field, C: 0}, api.ErrField, "alloc 0 2")
	}
	wrong(t, api.Op{Kind: api.Load, A: 1, B: 0}, api.ErrField, "alloc 0 0")
}

// What is wrong changes nothing by the other modes, either, and nothing is logged for it.
func TestWrongByBoth(t *testing.T) {
	s := share(t, small())
	m := made(t, s, 0, "alloc 0 1", "load 1 2 0", "store 2 0 0", "load 1 0 1", "store 0 1 0")
	for len(m.Results()) < 1 {
		m.Pick()
	}
	logs(t, s, m, api.Arm)
	for i, code := range []api.Errno{api.ErrNil, api.ErrNil, api.ErrField, api.ErrField} {
		ends(t, m, 2, api.Event{Op: 1 + i, Code: code})
		same(t, "Logged", m.Logged())
		if m.Held() != 0 {
			t.Error("held:", m.Held())
		}
	}
	same(t, "Regs", m.Regs(), 1, 0, 0)
}

// Registers are laid by the picks that end operations.
func TestRegisters(t *testing.T) {
	s := share(t, small())
	m := made(t, s, 0, "alloc 0 1", "move 1 0", "store 0 0 1", "load 2 0 0", "drop 1", "set 1 2", "drop 2", "get 1 1", "get 0 0", "move 2 0", "load 1 1 0")
	told := []int{1, 1, 0, 1, 0, 0, 0, 1, 0, 0, 1}
	want := [][]int{{1, 0, 0}, {1, 1, 0}, {1, 1, 0}, {1, 1, 1}, {1, 0, 1}, {1, 0, 1}, {1, 0, 0}, {1, 1, 0}, {0, 1, 0}, {0, 1, 0}, {0, 1, 0}}
	for place, regs := range want {
		was := m.Regs()
		e, ok := m.Pick()
		for !ok {
			same(t, "Regs, in the midst", m.Regs(), was...)
			e, ok = m.Pick()
		}
		if e != (api.Event{Kind: api.Did, Op: place, Value: told[place]}) {
			t.Fatalf("the event %d: %v", place, e)
		}
		same(t, "Regs", m.Regs(), regs...)
		if m.Results()[place] != (mutator.Result{Value: told[place]}) {
			t.Fatalf("the result %d: %v", place, m.Results()[place])
		}
	}
}

// A field is loaded behind the header, and what it is then is told.
func TestLoadReadsLate(t *testing.T) {
	s := share(t, small())
	m := made(t, s, 0, "alloc 0 1", "load 1 0 0")
	for len(m.Results()) < 1 {
		m.Pick()
	}
	b, _ := s.Heap.Make(0, 0)
	quiet(t, m, 2)
	s.Heap.Store(1, 0, b)
	ends(t, m, 1, api.Event{Op: 1, Value: b})
}

// By the mode Off a word is laid, and that is all.
func TestStoresByOff(t *testing.T) {
	s := share(t, small())
	m := made(t, s, 0, "alloc 0 1", "alloc 1 1", "store 0 0 1", "store 0 0 0", "store 0 0 2", "set 0 0", "set 0 1", "set 0 2")
	for len(m.Results()) < 2 {
		m.Pick()
	}
	for i, v := range []int{3, 1, 0} {
		was, _ := s.Heap.Load(1, 0)
		quiet(t, m, 2)
		if got, _ := s.Heap.Load(1, 0); got != was || m.Held() != 0 {
			t.Fatal("a field is laid ahead of the last pick, or something is held")
		}
		ends(t, m, 1, api.Event{Op: 2 + i})
		if got, _ := s.Heap.Load(1, 0); got != v {
			t.Fatalf("the field: %d; want %d", got, v)
		}
	}
	for i, v := range []int{1, 3, 0} {
		was, _ := s.Heap.Cell(0)
		quiet(t, m, 1)
		if got, _ := s.Heap.Cell(0); got != was || m.Held() != 0 {
			t.Fatal("a cell is laid ahead of the last pick, or something is held")
		}
		ends(t, m, 1, api.Event{Op: 5 + i})
		if got, _ := s.Heap.Cell(0); got != v {
			t.Fatalf("the cell: %d; want %d", got, v)
		}
	}
	same(t, "Logged", m.Logged())
}

// notes is one store, of a field or a cell: that has 1, and 3 is laid; how many picks it takes, and what is logged behind it.
type notes struct {
	store  string
	kinds  []int
	paint  []int // those of the color that is to be ahead of it
	picks  int
	reads  int // picks up to that which reads what is there
	logged []int
}

// By the mode Both what is there and what is laid is logged, by the mode Old what is there.
func TestStoresByOthers(t *testing.T) {
	both := []int{api.Arm}
	old := []int{api.Arm, api.Drain}
	for _, n := range []notes{
		{"store 0 0 1", both, nil, 6, 3, []int{1, 3}},
		{"set 0 1", both, nil, 5, 2, []int{1, 3}},
		{"store 0 0 1", old, nil, 5, 3, []int{1}},
		{"set 0 1", old, nil, 4, 2, []int{1}},
		{"store 0 0 1", both, []int{1}, 6, 3, []int{3}},
		{"set 0 1", both, []int{3}, 5, 2, []int{1}},
		{"set 0 1", both, []int{1, 3}, 5, 2, nil},
		{"store 0 0 1", old, []int{1}, 5, 3, nil},
		{"store 0 0 2", both, nil, 5, 3, []int{1}},
		{"set 0 2", both, nil, 4, 2, []int{1}},
		{"set 1 1", both, nil, 4, 2, []int{3}},
		{"set 1 1", old, nil, 3, 2, nil},
		{"set 1 2", both, nil, 3, 2, nil},
	} {
		stored(t, n)
	}
}

// stored does a store by a mode, and looks at what it does by which pick.
func stored(t *testing.T, n notes) {
	t.Helper()
	s := share(t, small())
	m := made(t, s, 0, "alloc 0 1", "alloc 1 1", "store 0 0 0", "set 0 0", n.store)
	for len(m.Results()) < 4 {
		m.Pick()
	}
	logs(t, s, m, n.kinds...)
	for _, a := range n.paint {
		s.Heap.Paint(a, 1)
	}
	o := program(t, n.store)[0]
	there := func() int {
		if o.Kind == api.Set {
			v, _ := s.Heap.Cell(o.A)
			return v
		}
		v, _ := s.Heap.Load(1, 0)
		return v
	}
	was := there()
	for pick := 1; pick < n.picks; pick++ {
		quiet(t, m, 1)
		held := 0
		if pick >= n.reads {
			held = was
		}
		if m.Held() != held || there() != was {
			t.Fatalf("%v: behind the pick %d held %d, there %d; want %d, %d", n, pick, m.Held(), there(), held, was)
		}
	}
	ends(t, m, 1, api.Event{Op: 4})
	from := o.B
	if o.Kind == api.Store {
		from = o.C
	}
	if m.Held() != 0 || there() != m.Regs()[from] {
		t.Fatalf("%v: behind it held %d, there %d", n, m.Held(), there())
	}
	same(t, n.store, m.Logged(), n.logged...)
}

// A log that is full is handed over first; with a box that has some it is painted instead.
func TestStoresByAFullLog(t *testing.T) {
	c := small()
	c.Log = 1
	s := share(t, c)
	m := made(t, s, 0, "alloc 0 1", "alloc 1 1", "store 0 0 0", "set 0 0", "set 0 1", "store 0 0 1")
	for len(m.Results()) < 4 {
		m.Pick()
	}
	logs(t, s, m, api.Arm)
	ends(t, m, 7, api.Event{Op: 4}) // begun, read, 1 logged; looked at 3, poured, 3 logged; laid
	same(t, "Logged", m.Logged(), 3)
	if s.Boxes[0].Len() != 1 || s.Boxes[1].Len() != 0 || s.Flag.Up() {
		t.Fatal("it isn't handed over to the mutator's own box")
	}
	// Begun, header, read; looked at 1, not handed over, 3 painted, flag, 1 logged; 3 looked at; laid.
	ends(t, m, 10, api.Event{Op: 5})
	same(t, "Logged", m.Logged(), 1)
	if k, _ := s.Heap.Color(3); k != 1 || s.Boxes[0].Len() != 1 || !s.Flag.Up() {
		t.Fatal("it isn't painted")
	}
}

// What is there is read when its turn comes, and held as it was then.
func TestHeldIsWhatWasRead(t *testing.T) {
	s := share(t, small())
	m := made(t, s, 0, "alloc 0 1", "alloc 1 1", "set 0 0", "set 0 1")
	for len(m.Results()) < 3 {
		m.Pick()
	}
	logs(t, s, m, api.Arm)
	quiet(t, m, 1)
	b, _ := s.Heap.Make(0, 0)
	s.Heap.SetCell(0, b)
	quiet(t, m, 1)
	s.Heap.SetCell(0, 0)
	if m.Held() != b {
		t.Fatal("held:", m.Held())
	}
	ends(t, m, 3, api.Event{Op: 3})
	same(t, "Logged", m.Logged(), b, 3)
}

// Stores log by the color that is to be, which isn't the mutator's till it has answered Scan.
func TestStoresByTheColorThatIsToBe(t *testing.T) {
	for _, kinds := range [][]int{{api.Arm}, {api.Arm, api.Sync}, {api.Arm, api.Scan}, {api.Arm, api.Sync, api.Scan, api.Drain}} {
		s := share(t, small())
		m := made(t, s, 0, "alloc 0 1", "set 0 0", "drop 0", "set 0 0")
		for len(m.Results()) < 3 {
			m.Pick()
		}
		logs(t, s, m, kinds...)
		runs(t, m)
		same(t, "Logged", m.Logged(), 1)
		logs(t, s, m, api.Off)
		same(t, "Logged", m.Logged())
	}
}
