package mutator_test

import (
	"math"
	"slices"
	"testing"

	"dustpan/api"
	"dustpan/heap"
	"dustpan/log"
	"dustpan/mutator"
	"dustpan/op"
)

// small is a config of 2 mutators of 3 registers, 2 cells, and 4 blocks of 16 words.
func small() api.Config {
	return api.Config{Blocks: 4, Words: 16, Muts: 2, Regs: 3, Cells: 2, Log: 2, Stack: 1}
}

// program is the operations of lines.
func program(t *testing.T, lines ...string) []api.Op {
	t.Helper()
	var l []api.Op
	for _, line := range lines {
		o, e := op.Parse(line)
		if e != api.OK {
			t.Fatalf("no line: %q", line)
		}
		l = append(l, o)
	}
	return l
}

// share is what is shared, of a config.
func share(t *testing.T, c api.Config) *mutator.Shared {
	t.Helper()
	s, e := mutator.Share(c)
	if e != api.OK || s == nil {
		t.Fatalf("Share(%v): %v, %d", c, s, e)
	}
	return s
}

// made is a mutator with the program of lines.
func made(t *testing.T, s *mutator.Shared, id int, lines ...string) *mutator.Mut {
	t.Helper()
	m, e := mutator.New(s, id, program(t, lines...)...)
	if e != api.OK || m == nil {
		t.Fatalf("New(%d, %v): %v, %d", id, lines, m, e)
	}
	return m
}

// quiet picks a mutator so often, by which nothing ends.
func quiet(t *testing.T, m *mutator.Mut, picks int) {
	t.Helper()
	for i := range picks {
		if e, ok := m.Pick(); ok || e != (api.Event{}) {
			t.Fatalf("the pick %d of %d: %v, %v", i, picks, e, ok)
		}
	}
}

// ends picks a mutator until an operation ends, and looks at how many picks that took, and at the event.
func ends(t *testing.T, m *mutator.Mut, picks int, want api.Event) {
	t.Helper()
	want.Kind = api.Did
	quiet(t, m, picks-1)
	if e, ok := m.Pick(); !ok || e != want {
		t.Fatalf("behind %d picks: %v, %v; want %v", picks, e, ok, want)
	}
	if m.Busy() {
		t.Fatal("an operation ended, but there is a step")
	}
}

// runs picks a mutator until it is done.
func runs(t *testing.T, m *mutator.Mut) {
	t.Helper()
	for range 100000 {
		if m.Done() {
			return
		}
		m.Pick()
	}
	t.Fatal("it doesn't end")
}

// same holds numbers against what they should be.
func same(t *testing.T, what string, got []int, want ...int) {
	t.Helper()
	if !slices.Equal(got, want) {
		t.Fatalf("%s: %v; want %v", what, got, want)
	}
}

// results holds what ended against what should have.
func results(t *testing.T, m *mutator.Mut, want ...mutator.Result) {
	t.Helper()
	if got := m.Results(); !slices.Equal(got, want) {
		t.Fatalf("Results: %v; want %v", got, want)
	}
}

func TestShare(t *testing.T) {
	c := small()
	s := share(t, c)
	if s.Heap.Config() != c || len(s.Heap.Objects()) != 0 || len(s.Heap.Table().Unassigned()) != c.Blocks {
		t.Error("the heap isn't as at first")
	}
	if _, owes := s.Board.Pending(1); owes || s.Board.Count() != 0 || !s.Board.Answered(1) || s.Board.Answered(2) {
		t.Error("the board isn't as at first")
	}
	if !s.Queue.Rests() || s.Flag == nil || s.Flag.Up() {
		t.Error("the queue, or the flag, isn't as at first")
	}
	if len(s.Boxes) != c.Muts || s.Boxes[0] == s.Boxes[1] {
		t.Error("Boxes:", s.Boxes)
	}
	for _, x := range s.Boxes {
		if x == nil || x.Len() != 0 {
			t.Error("a box isn't as at first")
		}
	}
	if r := share(t, c); r.Heap == s.Heap || r.Board == s.Board || r.Queue == s.Queue || r.Flag == s.Flag || r.Boxes[0] == s.Boxes[0] {
		t.Error("two share what is shared")
	}
}

func TestShareRefuses(t *testing.T) {
	wrong := []api.Config{{}}
	for i, n := range []int{0, 4097, 15, 257, 0, 9, 0, 65, -1, 65, 0, 257, 0, 4097} {
		c := small()
		*[]*int{&c.Blocks, &c.Words, &c.Muts, &c.Regs, &c.Cells, &c.Log, &c.Stack}[i/2] = n
		wrong = append(wrong, c)
	}
	for _, c := range wrong {
		if s, e := mutator.Share(c); s != nil || e != api.ErrArg {
			t.Errorf("Share(%v): %v, %d", c, s, e)
		}
	}
}

func TestNew(t *testing.T) {
	s := share(t, small())
	for id := range 2 {
		m := made(t, s, id)
		same(t, "Regs", m.Regs(), 0, 0, 0)
		same(t, "Logged", m.Logged())
		results(t, m)
		op, answer := m.Most()
		if m.Held() != 0 || m.Mode() != mutator.Off || m.Color() != 0 || m.Busy() || !m.Done() || op != 0 || answer != 0 {
			t.Error("a mutator isn't as at first")
		}
		quiet(t, m, 3)
		if m.Busy() || !m.Done() {
			t.Error("busy with nothing")
		}
	}
	if made(t, s, 0, "safe").Done() {
		t.Error("done ahead of its program")
	}
}

func TestNewRefuses(t *testing.T) {
	s := share(t, small())
	long := make([]api.Op, api.MaxProgram+1)
	for _, id := range []int{math.MinInt, -1, 2, 3, 8, 1 << 32, math.MaxInt} {
		for _, l := range [][]api.Op{nil, long} {
			if m, e := mutator.New(s, id, l...); m != nil || e != api.ErrArg {
				t.Errorf("New(%d) of %d operations: %v, %d", id, len(l), m, e)
			}
		}
	}
	for _, l := range [][]api.Op{nil, long} {
		if m, e := mutator.New(nil, 0, l...); m != nil || e != api.ErrArg {
			t.Errorf("New of nothing shared: %v, %d", m, e)
		}
	}
	if m, e := mutator.New(s, 0, long...); m != nil || e != api.ErrLong {
		t.Errorf("New of %d operations: %v, %d", len(long), m, e)
	}
	if m, e := mutator.New(s, 0, long[1:]...); m == nil || e != api.OK {
		t.Errorf("New of %d operations: %v, %d", len(long)-1, m, e)
	}
}

// Of what is shared nothing may be missing.
func TestNewOfLess(t *testing.T) {
	for i := range 7 {
		s := share(t, small())
		switch i {
		case 0:
			s.Heap = nil
		case 1:
			s.Board = nil
		case 2:
			s.Queue = nil
		case 3:
			s.Flag = nil
		case 4:
			s.Boxes = nil
		case 5:
			s.Boxes = s.Boxes[:1]
		case 6:
			s.Boxes = []*log.Box{log.NewBox(), nil}
		}
		if m, e := mutator.New(s, 1, make([]api.Op, api.MaxProgram+1)...); m != nil || e != api.ErrArg {
			t.Errorf("New of less (%d): %v, %d", i, m, e)
		}
	}
	s := share(t, small())
	s.Boxes = append(s.Boxes, log.NewBox())
	if m, e := mutator.New(s, 2); m != nil || e != api.ErrArg {
		t.Errorf("New of a box too many: %v, %d", m, e)
	}
	if m, e := mutator.New(&mutator.Shared{}, 0); m != nil || e != api.ErrArg {
		t.Errorf("New of no parts: %v, %d", m, e)
	}
}

// What is handed in isn't kept, and what is answered isn't the mutator's own.
func TestNothingIsShared(t *testing.T) {
	s := share(t, small())
	l := program(t, "alloc 0 1", "move 1 0", "alloc 2 1")
	m, _ := mutator.New(s, 0, l...)
	for i := range l {
		l[i] = api.Op{Kind: api.Drop}
	}
	runs(t, m)
	want := []mutator.Result{{Value: 1}, {Value: 1}, {Value: 3}}
	results(t, m, want...)
	m.Regs()[0] = 9
	m.Results()[0].Value = 9
	same(t, "Regs", m.Regs(), 1, 1, 3)
	results(t, m, want...)
	s.Board.Ask(api.Arm)
	quiet(t, m, 2)
	s.Board.Answer(1)
	s.Board.Ask(api.Scan)
	for range 20 {
		m.Pick()
	}
	logged := m.Logged()
	if len(logged) == 0 {
		t.Fatal("nothing is logged")
	}
	m.Logged()[0] = 99
	same(t, "Logged", m.Logged(), logged...)
}

func TestANilMutator(t *testing.T) {
	var m *mutator.Mut
	quiet(t, m, 2)
	same(t, "Regs", m.Regs())
	same(t, "Logged", m.Logged())
	results(t, m)
	op, answer := m.Most()
	if m.Held() != 0 || m.Mode() != 0 || m.Color() != 0 || m.Busy() || m.Done() || op != 0 || answer != 0 {
		t.Error("a nil mutator has something")
	}
}

// The chapter's example.
func TestExample(t *testing.T) {
	m := made(t, share(t, small()), 0, "alloc 0 1", "move 1 0")
	runs(t, m)
	results(t, m, mutator.Result{Value: 1}, mutator.Result{Value: 1})
}

// A pick that begins something does nothing else; an operation is told by the pick that ends it, with its place.
func TestPicks(t *testing.T) {
	m := made(t, share(t, small()), 1, "safe", "drop 0", "safe")
	for place := range 3 {
		if m.Busy() || m.Done() || len(m.Results()) != place {
			t.Fatal("busy, or done, or ahead:", place)
		}
		quiet(t, m, 1)
		if !m.Busy() || m.Done() || len(m.Results()) != place {
			t.Fatal("begun, but not busy:", place)
		}
		ends(t, m, 1, api.Event{Who: 1, Op: place})
	}
	if m.Busy() || !m.Done() {
		t.Error("behind the program: busy, or not done")
	}
	quiet(t, m, 3)
	results(t, m, mutator.Result{}, mutator.Result{}, mutator.Result{})
}

// The most picks are those of operations that ended, and of answers, each by themselves.
func TestMost(t *testing.T) {
	s := share(t, small())
	m := made(t, s, 0, "safe", "load 0 0 0", "alloc 0 7", "load 1 0 3", "safe")
	most := func(wantOp, wantAnswer int) {
		t.Helper()
		if o, a := m.Most(); o != wantOp || a != wantAnswer {
			t.Fatalf("Most: %d, %d; want %d, %d", o, a, wantOp, wantAnswer)
		}
	}
	quiet(t, m, 1)
	most(0, 0)
	m.Pick()
	most(2, 0)
	s.Board.Ask(api.Arm)
	quiet(t, m, 1)
	most(2, 0)
	quiet(t, m, 1)
	most(2, 2)
	m.Pick()
	m.Pick()
	most(2, 2)
	for range 12 {
		m.Pick()
		most(2, 2)
	}
	m.Pick() // begun, no free slot, assigned, one slot put, its header laid, 7 fields, born
	most(13, 2)
	runs(t, m)
	most(13, 2)
	s.Board.Answer(1)
	s.Board.Ask(api.Scan)
	for range 20 {
		m.Pick()
	}
	most(13, 3) // begun, a register noted, answered
}

// Whatever others do to the heap in between, each pick ends, and none panics.
func TestMeddling(t *testing.T) {
	for seed := range uint64(200) {
		x := seed*2862933555777941757 + 1
		roll := func(n int) int {
			x = x*6364136223846793005 + 1442695040888963407
			return int(x>>33) % n
		}
		s := share(t, api.Config{Blocks: 2, Words: 16, Muts: 1, Regs: 2, Cells: 1, Log: 1, Stack: 1})
		m := made(t, s, 0, "alloc 0 1", "alloc 1 3", "set 0 1", "store 1 0 0", "store 0 0 1", "load 0 1 0", "alloc 0 1", "get 1 0", "store 1 0 0", "alloc 1 15", "load 1 0 0")
		for range 300 {
			m.Pick()
			if roll(3) == 0 {
				meddle(s, roll)
			}
		}
	}
}

// meddle does something to what is shared that just its parts may do.
func meddle(s *mutator.Shared, roll func(n int) int) {
	a := roll(33)
	switch roll(12) {
	case 0:
		s.Heap.Free(a)
	case 1:
		s.Heap.Put(a)
	case 2:
		s.Heap.Take(roll(4))
	case 3:
		s.Heap.Begin(a, roll(4))
	case 4:
		s.Heap.Bear(a, roll(2))
	case 5:
		s.Heap.Assign(roll(4))
	case 6:
		s.Queue.Put(roll(4), roll(4))
	case 7:
		s.Heap.SetCell(0, a)
	case 8:
		s.Heap.Store(a, 0, roll(33))
	case 9:
		s.Board.Answer(0)
	case 10:
		s.Heap, _ = heap.New(s.Heap.Config())
	default:
		s.Board.Ask(roll(9))
	}
}
