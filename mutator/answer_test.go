package mutator_test

import (
	"math"
	"testing"

	"dustpan/api"
	"dustpan/config"
	"dustpan/mutator"
)

// holding is the mutator 0 of two, whose registers have the objects 1, 3 and 5, with what is still to come of its program.
func holding(t *testing.T, room int, lines ...string) (*mutator.Shared, *mutator.Mut) {
	t.Helper()
	c := small()
	c.Log = room
	s := share(t, c)
	m := made(t, s, 0, append([]string{"alloc 0 1", "alloc 1 1", "alloc 2 1"}, lines...)...)
	for len(m.Results()) < 3 {
		m.Pick()
	}
	same(t, "Regs", m.Regs(), 1, 3, 5)
	return s, m
}

// asks makes a request, which the mutator 1 answers at once.
func asks(t *testing.T, s *mutator.Shared, kind int) {
	t.Helper()
	if e := s.Board.Ask(kind); e != api.OK {
		t.Fatalf("Ask(%d): %d", kind, e)
	}
	s.Board.Answer(1)
}

// answers picks a mutator, which answers by the last one of so many picks.
func answers(t *testing.T, s *mutator.Shared, m *mutator.Mut, picks int) {
	t.Helper()
	for pick := 1; pick <= picks; pick++ {
		if s.Board.Answered(0) {
			t.Fatalf("answered ahead of the pick %d", pick)
		}
		quiet(t, m, 1)
		if m.Busy() != (pick < picks) {
			t.Fatalf("busy behind the pick %d: %v", pick, m.Busy())
		}
	}
	if !s.Board.Answered(0) {
		t.Fatalf("not answered behind %d picks", picks)
	}
}

// is looks at a mutator's mode and color.
func is(t *testing.T, m *mutator.Mut, mode, color int) {
	t.Helper()
	if m.Mode() != mode || m.Color() != color {
		t.Fatalf("the mode %d, the color %d; want %d, %d", m.Mode(), m.Color(), mode, color)
	}
}

// A cycle's requests, one behind the other.
func TestAnswers(t *testing.T) {
	s, m := holding(t, 4)
	is(t, m, mutator.Off, 0)
	asks(t, s, api.Arm)
	quiet(t, m, 1)
	is(t, m, mutator.Off, 0)
	quiet(t, m, 1)
	is(t, m, mutator.Both, 0)
	asks(t, s, api.Sync)
	answers(t, s, m, 2)
	is(t, m, mutator.Both, 0)
	same(t, "Logged", m.Logged())
	asks(t, s, api.Scan)
	for i, want := range [][]int{nil, {1}, {1, 3}, {1, 3, 5}} {
		quiet(t, m, 1)
		same(t, "Logged", m.Logged(), want...)
		is(t, m, mutator.Both, 0)
		if s.Board.Answered(0) {
			t.Fatal("answered ahead:", i)
		}
	}
	answers(t, s, m, 1)
	is(t, m, mutator.Both, 1)
	asks(t, s, api.Drain)
	quiet(t, m, 2)
	if s.Boxes[0].Len() != 3 || s.Board.Answered(0) {
		t.Fatal("not poured, or answered ahead")
	}
	is(t, m, mutator.Both, 1)
	answers(t, s, m, 1)
	is(t, m, mutator.Old, 1)
	same(t, "Logged", m.Logged())
	asks(t, s, api.Off)
	answers(t, s, m, 2)
	is(t, m, mutator.Off, 1)
	asks(t, s, api.Arm)
	answers(t, s, m, 2)
	is(t, m, mutator.Both, 1)
	asks(t, s, api.Scan)
	answers(t, s, m, 2+3)
	is(t, m, mutator.Both, 0)
}

// Arm and Off forget what is logged.
func TestClears(t *testing.T) {
	for _, kind := range []int{api.Arm, api.Off} {
		s, m := holding(t, 4, "set 0 0")
		logs(t, s, m, api.Arm)
		runs(t, m)
		same(t, "Logged", m.Logged(), 1)
		asks(t, s, kind)
		quiet(t, m, 1)
		same(t, "Logged", m.Logged(), 1)
		answers(t, s, m, 1)
		same(t, "Logged", m.Logged())
		if s.Boxes[0].Len() != 0 {
			t.Error("what is to be forgotten is handed over")
		}
	}
}

// Sync leaves all as it is.
func TestSync(t *testing.T) {
	s, m := holding(t, 4, "set 0 0")
	logs(t, s, m, api.Arm)
	runs(t, m)
	asks(t, s, api.Sync)
	answers(t, s, m, 2)
	same(t, "Logged", m.Logged(), 1)
	is(t, m, mutator.Both, 0)
}

// Registers without an object, and those whose object has the color, aren't logged.
func TestScanLogsWhatIsToBeMarked(t *testing.T) {
	s, m := holding(t, 4, "drop 1")
	runs(t, m)
	logs(t, s, m, api.Arm, api.Sync)
	s.Heap.Paint(1, 1)
	asks(t, s, api.Scan)
	answers(t, s, m, 4)
	same(t, "Logged", m.Logged(), 5)
}

// The log may be shorter than there are registers.
func TestScanByAShortLog(t *testing.T) {
	s, m := holding(t, 1)
	logs(t, s, m, api.Arm)
	asks(t, s, api.Scan)
	// Begun; 1 logged; looked at 3, poured, logged; looked at 5, not handed over, 3 painted, flag, logged; answered.
	answers(t, s, m, 1+1+3+5+1)
	same(t, "Logged", m.Logged(), 5)
	if k, _ := s.Heap.Color(3); k != 1 || !s.Flag.Up() || s.Boxes[0].Len() != 1 {
		t.Error("not painted:", k, s.Flag.Up())
	}
	if k, _ := s.Heap.Color(1); k != 0 {
		t.Error("what is handed over is painted")
	}
}

// Drain without a log is just the answer; with a box that has some, the log is painted.
func TestDrain(t *testing.T) {
	s, m := holding(t, 3)
	logs(t, s, m, api.Arm)
	asks(t, s, api.Drain)
	answers(t, s, m, 2)
	is(t, m, mutator.Old, 0)
	logs(t, s, m, api.Scan)
	logs(t, s, m, api.Drain)
	if s.Boxes[0].Len() != 3 {
		t.Fatal("not handed over")
	}
	s, m = holding(t, 3, "set 0 2")
	logs(t, s, m, api.Arm)
	runs(t, m)
	logs(t, s, m, api.Drain)
	if s.Boxes[0].Len() != 1 {
		t.Fatal("not handed over")
	}
	logs(t, s, m, api.Scan)
	same(t, "Logged", m.Logged(), 1, 3, 5)
	asks(t, s, api.Drain)
	// Begun, not handed over, three painted, flag, answered.
	answers(t, s, m, 1+1+3+1+1)
	for _, a := range []int{1, 3, 5} {
		if k, _ := s.Heap.Color(a); k != 1 {
			t.Errorf("%d isn't painted", a)
		}
	}
	if !s.Flag.Up() || s.Boxes[0].Len() != 1 {
		t.Error("the flag isn't raised, or the box is changed")
	}
	is(t, m, mutator.Old, 1)
}

// What is asked once more, or out of its turn, is answered by the same words: the color that is to be hangs on the color, and Scan takes it.
func TestRequestsOnceMore(t *testing.T) {
	s, m := holding(t, 4, "set 0 0", "set 0 0")
	logs(t, s, m, api.Scan)
	is(t, m, mutator.Off, 0)
	logs(t, s, m, api.Arm, api.Arm)
	for len(m.Results()) < 5 {
		m.Pick()
	}
	same(t, "Logged", m.Logged(), 1, 1, 1)
	logs(t, s, m, api.Arm, api.Scan, api.Scan)
	is(t, m, mutator.Both, 1)
	logs(t, s, m, api.Arm, api.Drain)
	is(t, m, mutator.Old, 1)
	logs(t, s, m, api.Scan)
	is(t, m, mutator.Old, 0)
}

// Ahead of Scan what a box has no room for is painted by the color that is to be, too.
func TestDrainAheadOfScan(t *testing.T) {
	s, m := holding(t, 4, "set 0 0", "set 0 1")
	logs(t, s, m, api.Arm)
	for len(m.Results()) < 4 {
		m.Pick()
	}
	logs(t, s, m, api.Drain, api.Arm)
	runs(t, m)
	same(t, "Logged", m.Logged(), 1, 3)
	logs(t, s, m, api.Drain)
	for _, a := range []int{1, 3} {
		if k, _ := s.Heap.Color(a); k != 1 {
			t.Errorf("%d isn't painted", a)
		}
	}
}

// Who is busy with an answer isn't done.
func TestAnAnswerIsntDone(t *testing.T) {
	s, m := holding(t, 4)
	asks(t, s, api.Arm)
	if !m.Done() {
		t.Error("not done ahead of an answer")
	}
	quiet(t, m, 1)
	if m.Done() || !m.Busy() {
		t.Error("done in the midst of an answer")
	}
	quiet(t, m, 1)
	if !m.Done() || m.Busy() {
		t.Error("not done behind an answer")
	}
}

// Requests of no phase that asks are answered all the same.
func TestOtherRequests(t *testing.T) {
	s, m := holding(t, 4, "set 0 0", "safe")
	logs(t, s, m, api.Arm)
	for len(m.Results()) < 4 {
		m.Pick()
	}
	for _, kind := range []int{math.MinInt, -1, api.Idle, api.Trace, api.Sweep, 8, 99, math.MaxInt} {
		asks(t, s, kind)
		answers(t, s, m, 2)
		is(t, m, mutator.Both, 0)
		same(t, "Logged", m.Logged(), 1)
	}
	if m.Done() {
		t.Error("an operation was begun")
	}
}

// A request waits for the operation in whose midst it is made, and goes ahead of the next one.
func TestAnswersBetweenOperations(t *testing.T) {
	s, m := holding(t, 4, "set 0 0", "set 0 1", "set 0 2")
	quiet(t, m, 1)
	asks(t, s, api.Arm)
	ends(t, m, 1, api.Event{Op: 3})
	if s.Board.Answered(0) {
		t.Fatal("answered in the midst of an operation")
	}
	answers(t, s, m, 2)
	same(t, "Logged", m.Logged()) // as it was begun by the mode Off
	quiet(t, m, 1)
	asks(t, s, api.Off)
	quiet(t, m, 3)
	ends(t, m, 1, api.Event{Op: 4})
	same(t, "Logged", m.Logged(), 1, 3)
	answers(t, s, m, 2)
	ends(t, m, 2, api.Event{Op: 5})
	same(t, "Logged", m.Logged())
}

// A mutator answers for itself alone.
func TestAnswersForItself(t *testing.T) {
	s := share(t, small())
	x, y := made(t, s, 0), made(t, s, 1)
	s.Board.Ask(api.Arm)
	quiet(t, y, 9)
	if !s.Board.Answered(1) || s.Board.Answered(0) {
		t.Fatal("answered for another one")
	}
	is(t, x, mutator.Off, 0)
	quiet(t, x, 2)
	if !s.Board.All() {
		t.Fatal("not answered")
	}
	is(t, x, mutator.Both, 0)
}

// An answer takes no more picks than there are bounds for, however short the log is.
func TestAnswersBounds(t *testing.T) {
	for room := 1; room <= 5; room++ {
		for regs := 1; regs <= 9; regs += 4 {
			c := api.Config{Blocks: 4, Words: 16, Muts: 2, Regs: regs, Cells: 1, Log: room, Stack: 1}
			s := share(t, c)
			var l []api.Op
			for r := range regs {
				l = append(l, api.Op{Kind: api.Alloc, A: r})
			}
			m, _ := mutator.New(s, 0, l...)
			runs(t, m)
			logs(t, s, m, api.Arm, api.Sync, api.Scan, api.Drain, api.Off)
			if _, a := m.Most(); a < 2+regs || a > config.AnswerPicks(c) {
				t.Errorf("of %d registers, a log of %d: %d picks", regs, room, a)
			}
		}
	}
}
