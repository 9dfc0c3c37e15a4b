package world_test

import (
	"math"
	"slices"
	"testing"

	"dustpan/api"
	"dustpan/mutator"
	"dustpan/op"
	"dustpan/world"
)

// small is a config of 2 mutators of 3 registers, 2 cells, and 4 blocks of 16 words.
func small() api.Config {
	return api.Config{Blocks: 4, Words: 16, Muts: 2, Regs: 3, Cells: 2, Log: 2, Stack: 4}
}

// lone is a config of 1 mutator and 1 cell.
func lone() api.Config {
	c := small()
	c.Muts, c.Cells = 1, 1
	return c
}

// lines is the operations of lines.
func lines(t *testing.T, l ...string) []api.Op {
	t.Helper()
	var out []api.Op
	for _, line := range l {
		o, e := op.Parse(line)
		if e != api.OK {
			t.Fatalf("no line: %q", line)
		}
		out = append(out, o)
	}
	return out
}

// made is a world.
func made(t *testing.T, c api.Config, programs ...[]api.Op) *world.World {
	t.Helper()
	w, e := world.New(c, programs...)
	if e != api.OK || w == nil {
		t.Fatalf("New(%v): %v, %d", c, w, e)
	}
	return w
}

// picks does picks, none of which is refused.
func picks(t *testing.T, w *world.World, l ...int) {
	t.Helper()
	was := w.Picks()
	if n, e := w.Run(l...); n != len(l) || e != api.OK || w.Picks() != was+len(l) {
		t.Fatalf("Run of %d picks: %d, %d; there were %d, and are %d", len(l), n, e, was, w.Picks())
	}
}

// again is one pick again and again.
func again(who, n int) []int {
	return slices.Repeat([]int{who}, n)
}

// turns is so many turns, by each of which all mutators are picked, and then the collector.
func turns(c api.Config, n int) []int {
	var l []int
	for who := range c.Muts + 1 {
		l = append(l, who)
	}
	return slices.Repeat(l, n)
}

// same holds what there is, one by one, against what there should be.
func same[T comparable](t *testing.T, what string, got []T, want ...T) {
	t.Helper()
	if !slices.Equal(got, want) {
		t.Fatalf("%s: %v; want %v", what, got, want)
	}
}

func TestNew(t *testing.T) {
	c := small()
	w := made(t, c, lines(t, "alloc 0 1"), nil)
	if w.Config() != c || w.Picks() != 0 || w.Done() || !w.Idle() {
		t.Error("it isn't as at first:", w.Config(), w.Picks(), w.Done(), w.Idle())
	}
	same(t, "Events", w.Events())
	same(t, "Since", w.Since(0))
	s := w.Shared()
	if s == nil || s.Heap.Config() != c || len(s.Heap.Objects()) != 0 || len(s.Boxes) != c.Muts || s.Board.Count() != 0 || !s.Queue.Rests() || s.Flag.Up() {
		t.Error("what is shared isn't as at first")
	}
	x := w.Coll()
	if x == nil || x.Shared != s || x.Phase() != api.Idle || x.Cycles() != 0 || x.Color() != 0 {
		t.Error("the collector isn't as at first, or has something else that is shared")
	}
	for id := range c.Muts {
		m := w.Mut(id)
		if m == nil || m.Shared != s || m.Mode() != mutator.Off || m.Color() != 0 || m.Busy() {
			t.Error("the mutator isn't as at first, or has something else that is shared:", id)
		}
		same(t, "Regs", m.Regs(), 0, 0, 0)
	}
	if w.Mut(0).Done() || !w.Mut(1).Done() {
		t.Error("the programs are others")
	}
}

// The numbers of mutators are from 0 on, and each has its own program.
func TestMut(t *testing.T) {
	c := small()
	c.Muts = api.MaxMuts
	var programs [][]api.Op
	for id := range c.Muts {
		programs = append(programs, slices.Repeat(lines(t, "safe"), id))
	}
	w := made(t, c, programs...)
	for id := range c.Muts {
		picks(t, w, again(id, 20)...)
		if n := len(w.Mut(id).Results()); n != id || !w.Mut(id).Done() {
			t.Errorf("the mutator %d has done %d operations", id, n)
		}
		if w.Mut(id) != w.Mut(id) {
			t.Error("a mutator is two")
		}
	}
	for _, id := range []int{math.MinInt, -1, c.Muts, c.Muts + 1, 1 << 32, math.MaxInt} {
		if w.Mut(id) != nil {
			t.Error("there is a mutator", id)
		}
	}
}

// Mutators without a program have an empty one.
func TestFewerPrograms(t *testing.T) {
	c := small()
	c.Muts = 3
	for n := range c.Muts + 1 {
		w := made(t, c, slices.Repeat([][]api.Op{lines(t, "safe")}, n)...)
		for id := range c.Muts {
			if w.Mut(id).Done() == (id < n) {
				t.Errorf("of %d programs the mutator %d has another one", n, id)
			}
		}
		picks(t, w, turns(c, 3)...)
		if !w.Done() || len(w.Events()) != n {
			t.Errorf("of %d programs: %v, %v", n, w.Done(), w.Events())
		}
	}
}

func TestNewRefuses(t *testing.T) {
	refused := func(want api.Errno, c api.Config, programs ...[]api.Op) {
		t.Helper()
		if w, e := world.New(c, programs...); w != nil || e != want {
			t.Errorf("New(%v) of %d programs: %v, %d; want %d", c, len(programs), w, e, want)
		}
	}
	most := make([]api.Op, api.MaxProgram)
	long := make([]api.Op, api.MaxProgram+1)
	wrong := []api.Config{{}, {Muts: 1}, {Muts: -1}}
	for i, n := range []int{0, 4097, 15, 257, 0, 9, 0, 65, -1, 65, 0, 257, 0, 4097} {
		c := small()
		*[]*int{&c.Blocks, &c.Words, &c.Muts, &c.Regs, &c.Cells, &c.Log, &c.Stack}[i/2] = n
		wrong = append(wrong, c)
	}
	for _, c := range wrong {
		refused(api.ErrArg, c)
		refused(api.ErrArg, c, long)
		refused(api.ErrArg, c, make([][]api.Op, 10)...)
	}
	c := small()
	refused(api.ErrArg, c, nil, nil, nil)
	refused(api.ErrArg, c, make([][]api.Op, 100)...)
	refused(api.ErrArg, c, long, nil, nil) // named first
	refused(api.ErrArg, c, nil, nil, long)
	refused(api.ErrLong, c, long)
	refused(api.ErrLong, c, long, nil)
	refused(api.ErrLong, c, nil, long)
	refused(api.ErrLong, c, most, long)
	refused(api.ErrLong, c, make([]api.Op, 5000))
	made(t, c, most, most)
}

// A program of as many operations as may be is done to its end.
func TestLongestProgram(t *testing.T) {
	w := made(t, lone(), slices.Repeat(lines(t, "safe"), api.MaxProgram))
	picks(t, w, again(0, 2*api.MaxProgram-1)...)
	if w.Done() {
		t.Error("done ahead of its end")
	}
	picks(t, w, 0)
	if l := w.Events(); !w.Done() || len(l) != api.MaxProgram || l[len(l)-1] != (api.Event{Pick: 2*api.MaxProgram - 1, Kind: api.Did, Op: api.MaxProgram - 1}) {
		t.Error("at its end:", w.Done(), len(l))
	}
}

// Each pick picks whom it should, and just that one.
func TestPick(t *testing.T) {
	c := small()
	safe := lines(t, "safe", "safe")
	w := made(t, c, safe, safe)
	begun := func() []bool {
		return []bool{w.Mut(0).Busy(), w.Mut(1).Busy(), w.Coll().Busy(), w.Coll().Wishes()}
	}
	for i, p := range []struct {
		who  int
		want []bool
	}{
		{2, []bool{false, false, false, false}}, // nothing is wished
		{1, []bool{false, true, false, false}},
		{0, []bool{true, true, false, false}},
		{3, []bool{true, true, false, true}},
		{3, []bool{true, true, false, true}},
		{1, []bool{true, false, false, true}},
		{2, []bool{true, false, true, false}},
		{3, []bool{true, false, true, true}},
		{0, []bool{false, false, true, true}},
	} {
		if e := w.Pick(p.who); e != api.OK || w.Picks() != i+1 {
			t.Fatalf("the pick %d: %d; there were %d", i, e, w.Picks())
		}
		same(t, "begun", begun(), p.want...)
	}
	same(t, "Events", w.Events(),
		api.Event{Pick: 5, Who: 1, Kind: api.Did},
		api.Event{Pick: 6, Who: 2, Kind: api.Start, Value: 1},
		api.Event{Pick: 8, Who: 0, Kind: api.Did})
}

// With however many mutators the collector's pick is as many as there are, and the wish's is one more; no other number is a pick.
func TestPickRefuses(t *testing.T) {
	for muts := 1; muts <= api.MaxMuts; muts++ {
		c := small()
		c.Muts = muts
		w := made(t, c, lines(t, "safe"))
		for _, who := range []int{math.MinInt, -muts, -1, muts + 2, muts + 3, 100, 1 << 32, math.MaxInt} {
			if e := w.Pick(who); e != api.ErrRange || w.Picks() != 0 {
				t.Errorf("of %d mutators Pick(%d): %d", muts, who, e)
			}
			if n, e := w.Run(who); n != 0 || e != api.ErrRange || w.Picks() != 0 {
				t.Errorf("of %d mutators Run(%d): %d, %d", muts, who, n, e)
			}
		}
		if w.Coll().Wishes() || w.Mut(0).Busy() {
			t.Error("what is refused does something")
		}
		picks(t, w, muts+1)
		if !w.Coll().Wishes() || w.Idle() {
			t.Errorf("of %d mutators nothing is wished", muts)
		}
		picks(t, w, muts)
		same(t, "Events", w.Events(), api.Event{Pick: 1, Who: muts, Kind: api.Start, Value: 1})
	}
}

func TestRun(t *testing.T) {
	c := small()
	w := made(t, c, lines(t, "safe", "safe"), lines(t, "safe"))
	if n, e := w.Run(); n != 0 || e != api.OK {
		t.Error("Run of none:", n, e)
	}
	if n, e := w.Run(0, 0, 1, -1, 1, 1, 9); n != 3 || e != api.ErrRange || w.Picks() != 3 || !w.Mut(1).Busy() {
		t.Error("Run of what is none:", n, e, w.Picks())
	}
	if n, e := w.Run(4, 0); n != 0 || e != api.ErrRange || w.Picks() != 3 || w.Mut(0).Busy() {
		t.Error("Run of none at first:", n, e, w.Picks())
	}
	picks(t, w, 1, 0, 0)
	same(t, "Events", w.Events(),
		api.Event{Pick: 1, Kind: api.Did},
		api.Event{Pick: 3, Who: 1, Kind: api.Did},
		api.Event{Pick: 5, Kind: api.Did, Op: 1})
	if n, e := w.Run(0, 1, 2, 3, 4); n != 4 || e != api.ErrRange || w.Picks() != 10 {
		t.Error("Run of what is none at last:", n, e, w.Picks())
	}
}

// There are so many picks, and no more; what is no pick is told ahead of that.
func TestMaxPicks(t *testing.T) {
	c := lone()
	w := made(t, c, lines(t, "alloc 0 1"))
	picks(t, w, again(1, api.MaxPicks-2)...)
	if n, e := w.Run(2, 1, 1, 0, 9); n != 2 || e != api.ErrLong || w.Picks() != api.MaxPicks {
		t.Error("Run over the end:", n, e, w.Picks())
	}
	for range 2 {
		for who := range 3 {
			if e := w.Pick(who); e != api.ErrLong {
				t.Errorf("Pick(%d) behind the end: %d", who, e)
			}
		}
		for _, who := range []int{-1, 3} {
			if e := w.Pick(who); e != api.ErrRange {
				t.Errorf("Pick(%d) behind the end: %d", who, e)
			}
		}
		if n, e := w.Run(0, -1); n != 0 || e != api.ErrLong {
			t.Error("Run behind the end:", n, e)
		}
		if n, e := w.Run(-1, 0); n != 0 || e != api.ErrRange {
			t.Error("Run of none behind the end:", n, e)
		}
		if n, e := w.Run(); n != 0 || e != api.OK {
			t.Error("Run of nothing behind the end:", n, e)
		}
	}
	if w.Picks() != api.MaxPicks || w.Mut(0).Busy() || w.Coll().Wishes() {
		t.Error("what is refused does something")
	}
	same(t, "Events", w.Events(), api.Event{Pick: api.MaxPicks - 1, Who: 1, Kind: api.Start, Value: 1})
}

// Those from the n-th one on.
func TestSince(t *testing.T) {
	c := small()
	w := made(t, c, lines(t, "alloc 0 1", "drop 0"), lines(t, "get 0 9"))
	same(t, "Since of none", w.Since(0))
	same(t, "Since of none", w.Since(-1))
	same(t, "Since of none", w.Since(1))
	picks(t, w, again(0, 30)...)
	picks(t, w, 3, 1, 1)
	picks(t, w, turns(c, 60)...)
	all := w.Events()
	kinds := map[int]int{}
	for i, e := range all {
		kinds[e.Kind]++
		if i > 0 && e.Pick <= all[i-1].Pick || e.Pick >= w.Picks() {
			t.Error("the events aren't in order:", all)
		}
	}
	if len(all) != 7 || kinds[api.Did] != 3 || kinds[api.Start] != 1 || kinds[api.Marked] != 1 || kinds[api.Freed] != 1 || kinds[api.Rested] != 1 {
		t.Fatal("Events:", all)
	}
	for n := range len(all) + 1 {
		same(t, "Since", w.Since(n), all[n:]...)
	}
	for _, n := range []int{-1, -2, -100, math.MinInt} {
		same(t, "Since", w.Since(n), all...)
	}
	for _, n := range []int{8, 9, 100, 1 << 32, math.MaxInt} {
		same(t, "Since", w.Since(n))
	}
}

// Done is whether all mutators are, whoever is last, and nothing of the collector.
func TestDone(t *testing.T) {
	c := small()
	c.Muts = 3
	for last := range 3 {
		w := made(t, c, lines(t, "safe"), lines(t, "safe"), lines(t, "safe"))
		for id := range 3 {
			if id != last {
				picks(t, w, id, id)
			}
		}
		for range 2 {
			if w.Done() || !w.Idle() {
				t.Error("done, or not idle, without", last)
			}
			picks(t, w, last)
		}
		if !w.Done() {
			t.Error("not done behind", last)
		}
		picks(t, w, 4, 3)
		if !w.Done() || w.Idle() {
			t.Error("a cycle goes on: not done, or idle")
		}
		picks(t, w, last) // an answer is begun
		if w.Done() {
			t.Error("done in the midst of an answer")
		}
		picks(t, w, last)
		if !w.Done() {
			t.Error("not done behind an answer")
		}
	}
	if w := made(t, c); !w.Done() {
		t.Error("not done without programs")
	}
}

// Idle is whether the collector has nothing to do, and nothing of the mutators.
func TestIdle(t *testing.T) {
	c := lone()
	w := made(t, c, lines(t, "safe", "safe"))
	picks(t, w, 0, 1)
	if !w.Idle() {
		t.Error("not idle without a wish")
	}
	picks(t, w, 2)
	if w.Idle() {
		t.Error("idle by a wish")
	}
	for w.Coll().Cycles() == 0 || w.Coll().Busy() {
		picks(t, w, 1)
		if w.Idle() != (!w.Coll().Busy() && !w.Coll().Wishes()) {
			t.Fatal("idle in the midst of a cycle")
		}
		picks(t, w, 0)
	}
	if !w.Idle() {
		t.Error("not idle at rest")
	}
	picks(t, w, 2, 1, 2)
	for w.Coll().Busy() {
		picks(t, w, 0, 1)
	}
	if w.Idle() || !w.Coll().Wishes() {
		t.Error("idle, but a cycle is wished")
	}
}

// What is handed in is neither changed nor kept, and what is answered is new memory.
func TestNothingIsShared(t *testing.T) {
	c := small()
	program := lines(t, "alloc 0 1", "move 1 0", "drop 0")
	programs := [][]api.Op{program, nil}
	w := made(t, c, programs...)
	for i := range program {
		if program[i] == (api.Op{}) {
			t.Error("a program is changed")
		}
		program[i] = api.Op{Kind: api.Safe}
	}
	programs[0], programs[1] = nil, program
	row := again(0, 40)
	spare := row[:20]
	picks(t, w, spare...)
	same(t, "the picks", row, again(0, 40)...)
	if !w.Done() {
		t.Error("not done")
	}
	same(t, "Regs", w.Mut(0).Regs(), 0, 1, 0)
	all := w.Events()
	for range 2 {
		for _, l := range [][]api.Event{w.Events(), w.Since(1)} {
			for i := range l {
				l[i] = api.Event{}
			}
			_ = append(l, api.Event{Pick: 99})
		}
		same(t, "Events", w.Events(), all...)
		picks(t, w, 3, 2)
		all = append(slices.Clone(all), w.Since(len(all))...)
	}
}

// Two worlds share nothing.
func TestTwo(t *testing.T) {
	c := small()
	program := lines(t, "alloc 0 1", "set 0 0")
	w, v := made(t, c, program), made(t, c, program)
	picks(t, w, again(0, 40)...)
	picks(t, w, 3, 2)
	if v.Picks() != 0 || len(v.Events()) != 0 || v.Done() || !v.Idle() || len(v.Shared().Heap.Objects()) != 0 || v.Shared().Board.Count() != 0 {
		t.Error("two worlds share something")
	}
	if w.Shared() == v.Shared() || w.Coll() == v.Coll() || w.Mut(0) == v.Mut(0) {
		t.Error("two worlds have one part")
	}
}

func TestNil(t *testing.T) {
	var w *world.World
	for _, who := range []int{math.MinInt, -1, 0, 1, 2, math.MaxInt} {
		if e := w.Pick(who); e != api.ErrState {
			t.Errorf("Pick(%d): %d", who, e)
		}
		if l := w.Since(who); len(l) != 0 {
			t.Errorf("Since(%d): %v", who, l)
		}
		if w.Mut(who) != nil {
			t.Error("a nil world has a mutator", who)
		}
	}
	for _, l := range [][]int{nil, {0}, {-1, 5}} {
		if n, e := w.Run(l...); n != 0 || e != api.ErrState {
			t.Errorf("Run(%v): %d, %d", l, n, e)
		}
	}
	if w.Config() != (api.Config{}) || w.Picks() != 0 || len(w.Events()) != 0 || w.Coll() != nil || w.Shared() != nil || w.Done() || w.Idle() {
		t.Error("a nil world has something")
	}
}
