package replay_test

import (
	"math"
	"slices"
	"testing"

	"dustpan/api"
	"dustpan/op"
	"dustpan/replay"
)

// small is a config of 2 mutators of 3 registers, 2 cells, and 4 blocks of 16 words.
func small() api.Config {
	return api.Config{Blocks: 4, Words: 16, Muts: 2, Regs: 3, Cells: 2, Log: 2, Stack: 4}
}

// lines is the operations of lines.
func lines(t *testing.T, l ...string) []api.Op {
	t.Helper()
	var out []api.Op
	for _, line := range l {
		o, e := op.Parse(line)
		if e != api.OK {
			t.Fatalf("no line: %q", line)
		}
		out = append(out, o)
	}
	return out
}

// made is a replay without events.
func made(t *testing.T, c api.Config, programs ...[]api.Op) *replay.Replay {
	t.Helper()
	r, e := replay.New(c, programs...)
	if e != api.OK || r == nil {
		t.Fatalf("New(%v): %v, %d", c, r, e)
	}
	return r
}

// did is an operation that ended, and told a value.
func did(who, place, value int) api.Event {
	return api.Event{Who: who, Kind: api.Did, Op: place, Value: value}
}

// failed is one that ended with an error.
func failed(who, place int, code api.Errno) api.Event {
	return api.Event{Who: who, Kind: api.Did, Op: place, Code: code}
}

// takes looks at whether events are right.
func takes(t *testing.T, r *replay.Replay, l ...api.Event) {
	t.Helper()
	for _, e := range l {
		if !r.Take(e) {
			t.Fatalf("wrong: %v", e)
		}
	}
}

// refuses looks at whether events are wrong, each of them.
func refuses(t *testing.T, r *replay.Replay, l ...api.Event) {
	t.Helper()
	for _, e := range l {
		if r.Take(e) {
			t.Fatalf("not wrong: %v", e)
		}
	}
}

// same holds what there is, one by one, against what there should be.
func same(t *testing.T, what string, got []int, want ...int) {
	t.Helper()
	if !slices.Equal(got, want) {
		t.Fatalf("%s: %v; want %v", what, got, want)
	}
}

// counts looks at how many operations were replayed.
func counts(t *testing.T, r *replay.Replay, want int) {
	t.Helper()
	if n := r.Count(); n != want {
		t.Fatalf("Count: %d; want %d", n, want)
	}
}

// addresses holds the addresses of the numbers from 1 on, and of those that there aren't, against what they should be.
func addresses(t *testing.T, r *replay.Replay, want ...int) {
	t.Helper()
	for i, a := range want {
		if got := r.Address(i + 1); got != a {
			t.Fatalf("Address(%d): %d; want %d", i+1, got, a)
		}
	}
	for _, id := range []int{math.MinInt, -1, 0, len(want) + 1, len(want) + 2, 1 << 32, math.MaxInt} {
		if got := r.Address(id); got != 0 {
			t.Fatalf("Address(%d): %d", id, got)
		}
	}
}

// The chapter's example.
func TestExample(t *testing.T) {
	r := made(t, small(), lines(t, "alloc 0 1"))
	takes(t, r, did(0, 0, 5))
	addresses(t, r, 5)
}

func TestNew(t *testing.T) {
	for _, x := range []struct {
		change func(c *api.Config)
		n      int // programs
		want   api.Errno
	}{
		{func(c *api.Config) {}, 0, api.OK},
		{func(c *api.Config) {}, 1, api.OK},
		{func(c *api.Config) {}, 2, api.OK},
		{func(c *api.Config) {}, 3, api.ErrArg},
		{func(c *api.Config) { c.Muts = 1 }, 1, api.OK},
		{func(c *api.Config) { c.Muts = 1 }, 2, api.ErrArg},
		{func(c *api.Config) { c.Muts = 8 }, 8, api.OK},
		{func(c *api.Config) { c.Muts = 8 }, 9, api.ErrArg},
		{func(c *api.Config) { c.Muts = 9 }, 9, api.ErrArg},
		{func(c *api.Config) { c.Muts = 0 }, 0, api.ErrArg},
		{func(c *api.Config) { c.Muts = -1 }, 0, api.ErrArg},
		{func(c *api.Config) { c.Regs = 65 }, 0, api.ErrArg},
		{func(c *api.Config) { c.Cells = -1 }, 0, api.ErrArg},
		{func(c *api.Config) { c.Words = 15 }, 0, api.ErrArg},
		{func(c *api.Config) { c.Blocks = 4097 }, 1, api.ErrArg},
		{func(c *api.Config) { c.Log = 0 }, 0, api.ErrArg},
		{func(c *api.Config) { c.Stack = 0 }, 3, api.ErrArg},
		{func(c *api.Config) { *c = api.Config{} }, 0, api.ErrArg},
	} {
		c := small()
		x.change(&c)
		r, e := replay.New(c, make([][]api.Op, x.n)...)
		if e != x.want || (r == nil) != (e != api.OK) {
			t.Errorf("New(%v) of %d programs: %v, %d", c, x.n, r, e)
		}
	}
}

// A new replay has no events; mutators without a program have an empty one.
func TestNewHasNone(t *testing.T) {
	for _, programs := range [][][]api.Op{nil, {}, {nil}, {{}, nil}} {
		r := made(t, small(), programs...)
		counts(t, r, 0)
		addresses(t, r)
		if g := r.Graph(); g == nil || g.Count() != 0 || len(g.Roots()) != 0 {
			t.Error("a graph:", g)
		}
		if n, ok := r.All(); n != 0 || !ok {
			t.Error("All of none:", n, ok)
		}
		refuses(t, r, did(0, 0, 0), did(1, 0, 0))
	}
	r := made(t, small(), lines(t, "safe"))
	refuses(t, r, did(1, 0, 0))
	takes(t, r, did(0, 0, 0))
}

// No program is too long for a replay.
func TestLongProgram(t *testing.T) {
	n := api.MaxProgram + 1
	r := made(t, small(), nil, slices.Repeat(lines(t, "alloc 0 0"), n))
	var want []int
	for place := range n {
		takes(t, r, did(1, place, 1+place%7))
		want = append(want, 1+place%7)
	}
	refuses(t, r, did(1, n, 1))
	counts(t, r, n)
	addresses(t, r, want...)
}

// What is handed in is neither changed nor kept.
func TestSharesNothing(t *testing.T) {
	room := lines(t, "alloc 0 1", "move 1 0", "drop 0")
	programs := [][]api.Op{room[:2]}
	r := made(t, small(), programs...)
	same := slices.Equal(room, lines(t, "alloc 0 1", "move 1 0", "drop 0"))
	clear(room)
	programs[0] = nil
	events := []api.Event{did(0, 0, 5), did(0, 1, 5)}
	kept := slices.Clone(events)
	if n, ok := r.All(events...); n != 2 || !ok || !same || !slices.Equal(events, kept) {
		t.Error("All:", n, ok, same, events)
	}
	clear(events)
	refuses(t, r, did(0, 2, 0))
	counts(t, r, 2)
	addresses(t, r, 5)
}

// What isn't of an operation is never wrong, and nothing is replayed by it.
func TestOthers(t *testing.T) {
	r := made(t, small(), lines(t, "alloc 0 1"))
	for _, kind := range []int{math.MinInt, -1, 0, api.Start, api.Marked, api.Rested, api.Freed, 6, 1 << 32, math.MaxInt} {
		takes(t, r, api.Event{Kind: kind}, api.Event{Kind: kind, Value: 5}, api.Event{Pick: -1, Who: -1, Kind: kind, Op: 9, Code: api.ErrNil, Value: -1})
	}
	counts(t, r, 0)
	addresses(t, r)
	takes(t, r, did(0, 0, 5), api.Event{Kind: api.Freed, Value: 5}, api.Event{Who: 2, Kind: api.Rested, Value: 1})
	addresses(t, r, 5)
}

// There is such a mutator, and such a place, and it is the one behind its last one.
func TestWhoAndPlace(t *testing.T) {
	r := made(t, small(), lines(t, "alloc 0 1", "safe"), lines(t, "safe", "drop 0", "safe"))
	places := func(who, next, end int) {
		t.Helper()
		for _, place := range []int{math.MinInt, -1 << 32, -1, 0, 1, 2, 3, 4, 1 << 32, math.MaxInt} {
			if place != next || next == end {
				refuses(t, r, did(who, place, 0), did(who, place, 5), failed(who, place, api.ErrMemory))
			}
		}
		for _, none := range []int{math.MinInt, -1, 2, 3, 8, 1 << 32, math.MaxInt} {
			refuses(t, r, did(none, 0, 0), did(none, 0, 5), did(none, next, 0))
		}
	}
	for place := range 3 {
		places(1, place, 3)
		places(0, 0, 2)
		takes(t, r, did(1, place, 0))
	}
	places(1, 3, 3)
	takes(t, r, did(0, 0, 5))
	places(0, 1, 2)
	takes(t, r, did(0, 1, 0))
	places(0, 2, 2)
	places(1, 3, 3)
	counts(t, r, 5)
}

// A pick is of no account, whatever it is.
func TestPicks(t *testing.T) {
	r := made(t, small(), lines(t, "alloc 0 1", "safe", "move 1 0"))
	for place, e := range []api.Event{did(0, 0, 5), did(0, 1, 0), did(0, 2, 5)} {
		e.Pick = []int{70, -3, math.MinInt}[place]
		takes(t, r, e)
	}
}

// Memory is refused only to an alloc whose Check is OK, and then 0 is told; nothing is done.
func TestNoMemory(t *testing.T) {
	for _, line := range []string{"load 0 1 0", "store 0 0 1", "get 0 0", "set 0 0", "drop 0", "move 0 1", "safe", "alloc 0 16", "alloc 0 -1", "alloc 3 1", "alloc -1 1", "load 0 9 0", "get 0 9"} {
		r := made(t, small(), lines(t, line))
		refuses(t, r, failed(0, 0, api.ErrMemory))
		counts(t, r, 0)
	}
	for _, o := range []api.Op{{}, {Kind: 9}, {Kind: -1, B: 1}} {
		refuses(t, made(t, small(), []api.Op{o}), failed(0, 0, api.ErrMemory))
	}
	r := made(t, small(), lines(t, "alloc 0 15", "alloc 0 0", "alloc 1 1", "move 2 0"))
	for place := range 3 {
		for _, v := range []int{math.MinInt, -1, 1, 5, math.MaxInt} {
			e := failed(0, place, api.ErrMemory)
			e.Value = v
			refuses(t, r, e)
		}
		takes(t, r, failed(0, place, api.ErrMemory))
		counts(t, r, place+1)
		refuses(t, r, failed(0, place, api.ErrMemory))
		addresses(t, r)
		if g := r.Graph(); g.Count() != 0 || len(g.Roots()) != 0 {
			t.Fatal("something was done")
		}
	}
	refuses(t, r, failed(0, 3, api.ErrMemory))
	takes(t, r, did(0, 3, 0))
}

// What is refused memory leaves the register as it was.
func TestNoMemoryLeavesAll(t *testing.T) {
	r := made(t, small(), lines(t, "alloc 0 1", "alloc 0 1", "move 1 0", "alloc 0 1", "store 0 0 1", "load 2 0 0"))
	takes(t, r, did(0, 0, 7), failed(0, 1, api.ErrMemory))
	refuses(t, r, did(0, 2, 0))
	takes(t, r, did(0, 2, 7), did(0, 3, 9), did(0, 4, 0), did(0, 5, 7))
	addresses(t, r, 7, 9)
	counts(t, r, 6)
}

// The error is the graph's, and none other.
func TestErrors(t *testing.T) {
	for _, x := range []struct {
		o    string
		want api.Errno
	}{
		{"alloc 0 1", api.OK}, {"alloc 2 15", api.OK}, {"alloc 0 16", api.ErrSize}, {"alloc 0 -1", api.ErrSize}, {"alloc 3 16", api.ErrReg},
		{"load 0 1 0", api.OK}, {"load 1 1 1", api.OK}, {"load 0 0 0", api.ErrNil}, {"load 0 2 9", api.ErrNil}, {"load 0 1 2", api.ErrField}, {"load 0 1 -1", api.ErrField}, {"load 3 1 0", api.ErrReg}, {"load 0 3 0", api.ErrReg},
		{"store 1 0 0", api.OK}, {"store 1 1 1", api.OK}, {"store 0 0 1", api.ErrNil}, {"store 1 2 1", api.ErrField}, {"store 1 -1 1", api.ErrField}, {"store 1 0 3", api.ErrReg}, {"store -1 0 0", api.ErrReg},
		{"get 0 1", api.OK}, {"get 0 2", api.ErrCell}, {"get 3 2", api.ErrReg}, {"get 0 -1", api.ErrCell},
		{"set 1 0", api.OK}, {"set 2 3", api.ErrCell}, {"set 1 3", api.ErrReg},
		{"drop 2", api.OK}, {"drop 3", api.ErrReg},
		{"move 2 0", api.OK}, {"move 0 3", api.ErrReg},
		{"safe", api.OK},
	} {
		p := lines(t, "alloc 1 2", x.o)
		r := made(t, small(), nil, p)
		takes(t, r, did(1, 0, 5))
		for _, code := range []api.Errno{math.MinInt, -1, api.OK, api.ErrArg, api.ErrForm, api.ErrLong, api.ErrRange, api.ErrReg, api.ErrNil, api.ErrField, api.ErrSize, api.ErrCell, api.ErrState, api.ErrNone, api.ErrFull, api.ErrWord, 15, math.MaxInt} {
			e := failed(1, 1, code)
			if code != x.want {
				refuses(t, r, e)
			}
			if e.Value = 5; code != api.OK || code != x.want {
				refuses(t, r, e)
			}
		}
		counts(t, r, 1)
		e := failed(1, 1, x.want)
		if x.want == api.OK && p[1].Kind == api.Alloc {
			e.Value = 9
		}
		takes(t, r, e)
		counts(t, r, 2)
	}
	r := made(t, small(), []api.Op{{Kind: 9}, {}, {Kind: api.Safe, A: 99}})
	refuses(t, r, did(0, 0, 0), failed(0, 0, api.ErrReg))
	takes(t, r, failed(0, 0, api.ErrArg), failed(0, 1, api.ErrArg), did(0, 2, 0))
}

// The value is, by the map, what the graph tells: 0 for 0.
func TestValues(t *testing.T) {
	r := made(t, small(),
		lines(t, "alloc 0 2", "alloc 1 0", "store 0 1 1", "load 2 0 1", "load 2 0 0", "set 1 0", "move 2 1", "drop 0", "get 0 1", "load 1 0 1", "safe", "move 1 0"),
		lines(t, "get 0 1", "get 1 0", "load 2 0 1", "move 2 2", "move 1 2"))
	for _, e := range []api.Event{
		did(0, 0, 40), did(0, 1, 3), did(0, 2, 0), did(0, 3, 3), did(0, 4, 0), did(0, 5, 0),
		did(1, 0, 40), did(1, 1, 0), did(1, 2, 3), did(1, 3, 3),
		did(0, 6, 3), did(0, 7, 0), did(0, 8, 40), did(0, 9, 3), did(0, 10, 0), did(0, 11, 40),
		did(1, 4, 3),
	} {
		birth := e.Who == 0 && e.Op < 2
		for _, v := range []int{math.MinInt, -40, -3, -2, -1, 0, 1, 2, 3, 4, 40, 43, math.MaxInt} {
			if wrong := did(e.Who, e.Op, v); birth && v < 1 || !birth && v != e.Value {
				refuses(t, r, wrong)
			}
		}
		takes(t, r, e)
	}
	counts(t, r, 17)
	addresses(t, r, 40, 3)
}

// An alloc may tell any address from 1 on, also one that was told ahead, as slots come again.
func TestAddresses(t *testing.T) {
	l := []int{1, 5, 1, math.MaxInt, 5, 2}
	r := made(t, small(), slices.Repeat(lines(t, "alloc 0 1", "store 0 0 0", "load 1 0 0"), len(l)))
	for i, a := range l {
		addresses(t, r, l[:i]...)
		refuses(t, r, did(0, 3*i, 0), did(0, 3*i, -1), did(0, 3*i, math.MinInt))
		takes(t, r, did(0, 3*i, a), did(0, 3*i+1, 0), did(0, 3*i+2, a))
	}
	addresses(t, r, l...)
	if n := r.Graph().Count(); n != len(l) {
		t.Error("objects:", n)
	}
}

// What is wrong changes nothing, by however little it is.
func TestWrongChangesNothing(t *testing.T) {
	p := lines(t, "alloc 0 2", "alloc 1 1", "store 0 0 1", "set 0 0", "load 2 0 0", "get 1 0", "move 0 2", "drop 2", "alloc 2 1", "safe")
	r := made(t, small(), p)
	right := []int{5, 9, 0, 0, 9, 5, 9, 0, 13, 0}
	state := func() []int {
		g := r.Graph()
		l := []int{r.Count(), g.Count(), r.Address(1), r.Address(2), r.Address(3), g.Cell(0), g.Cell(1)}
		for m := range 2 {
			for i := range 3 {
				l = append(l, g.Reg(m, i))
			}
		}
		for id := range g.Count() {
			l = append(l, g.Fields(id+1)...)
		}
		return l
	}
	for place, v := range right {
		was := state()
		for range 2 {
			wrong := did(0, place, v)
			if wrong.Value = v + 1; p[place].Kind == api.Alloc {
				wrong.Value = 0
			}
			refuses(t, r, wrong, failed(0, place, api.ErrNil), failed(0, place, api.ErrReg), failed(0, place, 99), did(1, 0, 0), did(0, place+1, v), did(2, place, v), did(0, place-1, v))
			same(t, "the state", state(), was...)
		}
		takes(t, r, did(0, place, v))
	}
	addresses(t, r, 5, 9, 13)
}

// All goes up to the first one that is wrong: its place, and false; those ahead of it are replayed, and none behind it.
func TestAll(t *testing.T) {
	p := lines(t, "alloc 0 1", "alloc 1 1", "move 2 0", "drop 0")
	right := []api.Event{{Kind: api.Start, Value: 1}, did(0, 0, 5), {Kind: api.Freed, Value: 3}, did(0, 1, 7), did(0, 2, 5), {Kind: api.Rested}, did(0, 3, 0)}
	for n := range len(right) + 1 {
		r := made(t, small(), p)
		if got, ok := r.All(right[:n]...); got != n || !ok {
			t.Errorf("All of %d: %d, %v", n, got, ok)
		}
		if got, ok := r.All(right[n:]...); got != len(right)-n || !ok {
			t.Errorf("All of the others, from %d on: %d, %v", n, got, ok)
		}
		counts(t, r, 4)
	}
	for wrong, e := range right {
		if e.Kind != api.Did {
			continue
		}
		l := slices.Clone(right)
		l[wrong].Who = 1
		r := made(t, small(), p)
		if n, ok := r.All(l...); n != wrong || ok {
			t.Errorf("All, of which %d is wrong: %d, %v", wrong, n, ok)
		}
		counts(t, r, e.Op)
		if n, ok := r.All(right[wrong:]...); n != len(right)-wrong || !ok {
			t.Errorf("All from %d on: %d, %v", wrong, n, ok)
		}
		counts(t, r, 4)
		addresses(t, r, 5, 7)
	}
}

// The graph is a copy, and stays as it was.
func TestGraph(t *testing.T) {
	r := made(t, small(), lines(t, "alloc 0 1", "alloc 1 1", "store 0 0 1", "move 2 0"))
	takes(t, r, did(0, 0, 5), did(0, 1, 7))
	g := r.Graph()
	if g == r.Graph() {
		t.Error("not a copy")
	}
	for _, o := range lines(t, "drop 0", "alloc 1 3", "set 0 1") {
		g.Do(0, o)
	}
	addresses(t, r, 5, 7)
	if r.Graph().Count() != 2 || r.Graph().Reg(0, 0) != 1 || r.Graph().Cell(0) != 0 {
		t.Error("its copy has changed it")
	}
	was := r.Graph()
	takes(t, r, did(0, 2, 0), did(0, 3, 5))
	same(t, "the fields in a copy", was.Fields(1), 0)
	same(t, "the fields", r.Graph().Fields(1), 2)
	same(t, "what is reached", r.Graph().Reach(), 1, 2)
	if was.Reg(0, 2) != 0 || r.Graph().Reg(0, 2) != 1 {
		t.Error("the register 2:", was.Reg(0, 2), r.Graph().Reg(0, 2))
	}
}

// Of a nil replay nothing is told.
func TestNil(t *testing.T) {
	var r *replay.Replay
	for _, e := range []api.Event{{}, did(0, 0, 0), {Kind: api.Freed, Value: 1}} {
		refuses(t, r, e)
		if n, ok := r.All(e); n != 0 || ok {
			t.Error("All:", n, ok)
		}
	}
	if n, ok := r.All(); n != 0 || ok {
		t.Error("All of none:", n, ok)
	}
	counts(t, r, 0)
	addresses(t, r)
	if r.Graph() != nil || r.Same(nil) {
		t.Error("a graph, or the same")
	}
}
