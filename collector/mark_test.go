package collector_test

import (
	"testing"

	"dustpan/api"
	"dustpan/log"
)

// list is a list of n objects; the first one, from which all others are reached.
func list(t *testing.T, m *machine, n int) int {
	t.Helper()
	last := 0
	for range n {
		last = object(t, m.Heap, last)
	}
	return last
}

// marks goes on until marking has ended.
func (m *machine) marks(t *testing.T) {
	t.Helper()
	m.coll.Wish()
	m.until(t, api.Marked)
}

// colored holds the objects of the collector's color against what they should be.
func (m *machine) colored(t *testing.T, want ...int) {
	t.Helper()
	var got []int
	for _, a := range m.Heap.Objects() {
		if k, _ := m.Heap.Color(a); k == m.coll.Color() {
			got = append(got, a)
		}
	}
	same(t, "of the color", got, want...)
}

// hand lays addresses into a mutator's box.
func (m *machine) hand(t *testing.T, id int, addresses ...int) {
	t.Helper()
	b, _ := log.New(api.MaxLog)
	for _, a := range addresses {
		b.Add(a)
	}
	if !m.Boxes[id].Hand(b) {
		t.Fatal("the box has some")
	}
}

// Values are painted and pushed as they are looked at: cells rising, fields rising, the top one's first.
func TestStacked(t *testing.T) {
	m := with(t, small())
	x, y, z := object(t, m.Heap), object(t, m.Heap), object(t, m.Heap)
	a := object(t, m.Heap, x, 0, y)
	b := object(t, m.Heap, y, z, x)
	m.sets(t, a, b)
	m.coll.Wish()
	was := []int{}
	var seen [][]int
	goes(t, "Drain", m.in(api.Drain), func() {
		m.round()
		if l := m.coll.Stacked(); len(l) != len(was) {
			seen = append(seen, l)
			was = l
		}
	})
	want := [][]int{{a}, {a, b}, {a}, {a, y}, {a, y, z}, {a, y, z, x}, {a, y, z}, {a, y}, {a}, nil}
	if len(seen) != len(want) {
		t.Fatalf("Stacked: %v; want %v", seen, want)
	}
	for i, l := range want {
		same(t, "Stacked", seen[i], l...)
	}
	m.colored(t, x, y, z, a, b)
}

// What has the color already isn't pushed: loops end, and so do fields that have what is no object.
func TestPushedOnce(t *testing.T) {
	m := with(t, small())
	a := object(t, m.Heap, 0, 0)
	b := object(t, m.Heap, a, a)
	lays(t, m.Heap, a, 0, b)
	lays(t, m.Heap, a, 1, 64) // no address of a slot
	m.sets(t, a, a)
	m.marks(t)
	m.colored(t, a, b)
	m.rounds(t, 1, 0)
	m.until(t, api.Rested)
	lays(t, m.Heap, a, 0, 0)
	same(t, "freed", m.cycle(t), b)
}

// A cell that has no object is of no account.
func TestCellsWithoutAnObject(t *testing.T) {
	m := with(t, small())
	a := object(t, m.Heap, 0)
	m.sets(t, a+1, 64)
	same(t, "freed", m.cycle(t), a)
}

// A long list is marked by a stack and a log of the room 1.
func TestLongList(t *testing.T) {
	c := small()
	c.Blocks, c.Log, c.Stack = 8, 1, 1
	m := with(t, c)
	last := list(t, m, 30)
	m.sets(t, 0, last)
	if l := m.cycle(t); len(l) != 0 || len(m.Heap.Objects()) != 30 {
		t.Error("freed:", l)
	}
	m.rounds(t, 1, 0)
}

// What the stack refuses is found by going through all slots, in whichever block it is.
func TestRefused(t *testing.T) {
	for stack := 1; stack <= 16; stack++ {
		c := small()
		c.Blocks, c.Stack = 12, stack
		m := with(t, c)
		all := []int{}
		var fields []int
		for range 15 {
			fields = append(fields, list(t, m, 3))
		}
		all = append(all, m.Heap.Objects()...)
		root := object(t, m.Heap, fields...)
		object(t, m.Heap, root) // which nothing reaches
		m.sets(t, root)
		m.marks(t)
		m.colored(t, append(all, root)...)
		_, walks := m.coll.Rounds()
		if most := m.coll.Stacked(); len(most) > stack || (walks == 0) != (stack >= 15) || walks > len(all) {
			t.Fatalf("the room %d: %d walks", stack, walks)
		}
	}
}

// A stack never has more than its room.
func TestStackedAtMost(t *testing.T) {
	c := small()
	c.Stack = 2
	m := with(t, c)
	root := object(t, m.Heap, list(t, m, 1), list(t, m, 2), list(t, m, 3), list(t, m, 4), list(t, m, 5))
	m.sets(t, root)
	m.coll.Wish()
	goes(t, "Sweep", m.in(api.Sweep), func() {
		m.round()
		if l := m.coll.Stacked(); len(l) > 2 {
			t.Fatal("Stacked:", l)
		}
	})
	m.until(t, api.Rested)
	if n := len(m.Heap.Objects()); n != 16 {
		t.Error("left:", n)
	}
}

// What a box has is looked at, whosever it is, whatever the boxes ahead of it have.
func TestBoxes(t *testing.T) {
	c := small()
	c.Muts, c.Blocks = 4, 12
	for id := range c.Muts {
		m := with(t, c)
		a, b := list(t, m, 3), list(t, m, 4)
		lost := list(t, m, 2)
		m.hand(t, id, a, b, 0, a, a+1)
		m.marks(t)
		if m.Boxes[id].Len() != 0 {
			t.Error("the box still has some")
		}
		m.colored(t, m.Heap.Objects()[:7]...)
		if l := freed(m.until(t, api.Rested)); len(l) != 2 || l[1] != lost {
			t.Error("freed:", l)
		}
	}
}

// All boxes are emptied, one address by each turn.
func TestAllBoxes(t *testing.T) {
	c := small()
	c.Muts, c.Blocks = 4, 12
	m := with(t, c)
	for id := range c.Muts {
		m.hand(t, id, list(t, m, 2), list(t, m, 3))
	}
	n := len(m.Heap.Objects())
	m.coll.Wish()
	m.comes(t, api.Trace)
	left := 8
	goes(t, "Drain", m.in(api.Drain), func() {
		m.round()
		sum := 0
		for _, x := range m.Boxes {
			sum += x.Len()
		}
		if sum < left-1 || sum < left && len(m.coll.Stacked()) > 0 {
			t.Fatal("more than one is taken, or what was taken ahead isn't done:", sum, left)
		}
		left = sum
	})
	if left != 0 {
		t.Error("left:", left)
	}
	m.until(t, api.Marked)
	if m.colored(t, m.Heap.Objects()...); len(m.Heap.Objects()) != n {
		t.Error("Objects:", m.Heap.Objects())
	}
}

// What somebody else has painted is found by going through all slots, if the flag is raised.
func TestRaised(t *testing.T) {
	m := with(t, small())
	a := list(t, m, 5)
	m.coll.Wish()
	m.comes(t, api.Trace)
	m.Heap.Paint(a, 1)
	m.Flag.Raise()
	m.until(t, api.Marked)
	m.colored(t, m.Heap.Objects()...)
	m.rounds(t, 1, 1)
	if m.Flag.Up() {
		t.Error("the flag is raised still")
	}
}

// If anything is found since mutators were asked of Drain, they are asked once more, behind Trace.
func TestOnceMore(t *testing.T) {
	for i, found := range []func(m *machine, a int){
		func(m *machine, a int) { m.hand(t, 1, a) },
		func(m *machine, a int) { m.Heap.Paint(a, 1); m.Flag.Raise() },
	} {
		m := with(t, small())
		a := list(t, m, 5)
		m.coll.Wish()
		m.comes(t, api.Drain)
		m.rounds(t, 1, 0)
		count := m.Board.Count()
		found(m, a)
		m.comes(t, api.Trace)
		m.colored(t, m.Heap.Objects()...)
		if m.Board.Count() != count {
			t.Error("asked ahead of Trace")
		}
		m.comes(t, api.Drain)
		if m.Board.Count() != count+1 {
			t.Error("not asked once more")
		}
		m.until(t, api.Marked)
		m.rounds(t, 2, i)
		same(t, "freed", freed(m.until(t, api.Rested)))
	}
}

// What the stack refuses behind Drain has mutators asked once more, too.
func TestRefusedBehindDrain(t *testing.T) {
	c := small()
	c.Stack = 1
	m := with(t, c)
	a, b := list(t, m, 2), list(t, m, 2)
	root := object(t, m.Heap, a, b)
	m.coll.Wish()
	m.comes(t, api.Drain)
	m.hand(t, 0, root)
	m.until(t, api.Marked)
	m.colored(t, m.Heap.Objects()...)
	m.rounds(t, 2, 1)
}

// What registers have is reached, however little room there is for it in logs.
func TestRegisters(t *testing.T) {
	for room := 1; room <= 4; room++ {
		c := small()
		c.Log = room
		m := with(t, c, lines(t, "alloc 0 1", "alloc 1 1", "store 0 0 1", "alloc 1 2", "alloc 2 1"), lines(t, "alloc 2 0", "alloc 0 0", "drop 0"))
		m.does(t, 0, 5)
		m.does(t, 1, 3)
		same(t, "freed", m.cycle(t), m.muts[1].Results()[1].Value)
		same(t, "freed", m.cycle(t))
		if n := len(m.Heap.Objects()); n != 5 {
			t.Error("Objects:", n)
		}
	}
}

// between is a cycle that has come to the midst of Drain: its one mutator has answered, and has then painted what it had logged, but not raised the flag yet. What it painted has two objects, which aren't marked; one of them is in a register.
func between(t *testing.T) (m *machine, inner int) {
	t.Helper()
	c := lone()
	c.Cells, c.Regs = 2, 4
	m = with(t, c, lines(t,
		"get 0 1", "get 1 0", "load 2 1 0", // to, from, and what from has
		"store 0 0 2", "store 1 0 3", // that goes from the one to the other, and is logged twice
		"load 3 2 0", "store 0 0 1", "store 2 0 1", // logged: it, and what it has first
		"store 2 1 1", // there is no room in the log for what it has second, nor in the box, as nobody has emptied that
	))
	inner = object(t, m.Heap)
	painted := object(t, m.Heap, inner, object(t, m.Heap))
	from, to := object(t, m.Heap, painted), object(t, m.Heap, 0)
	m.sets(t, from, to)
	m.coll.Wish()
	goes(t, "a stack of both", func() bool { return len(m.coll.Stacked()) == 2 }, func() { m.alone(t) })
	m.quiet(t, 2) // to is popped, and its field looked at, ahead of from
	same(t, "Stacked", m.coll.Stacked(), from)
	m.does(t, 0, 5)
	goes(t, "Drain", m.in(api.Drain), func() { m.coll.Pick() })
	m.replies(t)
	goes(t, "paint", func() bool { return m.color(painted) == 1 }, func() { m.muts[0].Pick() })
	if m.color(inner) == 1 || m.Flag.Up() || !m.Board.All() || m.muts[0].Regs()[3] != inner {
		t.Fatal("it isn't as it should be")
	}
	return m, inner
}

// color is an object's color.
func (m *machine) color(a int) int {
	k, _ := m.Heap.Color(a)
	return k
}

// A mutator raises the flag behind what it has painted. Marking doesn't end between, though all that is in boxes has the color by then.
func TestPaintedButNotRaised(t *testing.T) {
	m, inner := between(t)
	m.quiet(t, 500)
	if m.coll.Phase() != api.Drain || m.Board.All() {
		t.Fatal("the mutator isn't asked once more, but the phase is", m.coll.Phase())
	}
	m.until(t, api.Marked)
	m.colored(t, m.Heap.Objects()...)
	m.until(t, api.Rested)
	if !m.Heap.Is(inner) || m.color(inner) != 1 {
		t.Error("what a register has is freed")
	}
	if _, walks := m.coll.Rounds(); walks == 0 {
		t.Error("what was painted is never gone through")
	}
}
