package stats_test

import (
	"math"
	"slices"
	"testing"

	"dustpan/api"
	"dustpan/op"
	"dustpan/stats"
)

// lines is the operations of lines.
func lines(t *testing.T, l ...string) []api.Op {
	t.Helper()
	var out []api.Op
	for _, line := range l {
		o, e := op.Parse(line)
		if e != api.OK {
			t.Fatalf("no line: %q", line)
		}
		out = append(out, o)
	}
	return out
}

// start is an event that begins a cycle.
func start(pick, number int) api.Event {
	return api.Event{Pick: pick, Who: 2, Kind: api.Start, Value: number}
}

// at is an event of a kind.
func at(pick, kind int) api.Event {
	return api.Event{Pick: pick, Who: 1, Kind: kind, Value: 7}
}

// did is an operation that ended.
func did(who, place int, code api.Errno) api.Event {
	return api.Event{Pick: 4, Who: who, Kind: api.Did, Op: place, Code: code, Value: 5}
}

// are holds cycles against what they should be.
func are(t *testing.T, got []stats.Cycle, want ...stats.Cycle) {
	t.Helper()
	if !slices.Equal(got, want) {
		t.Fatalf("the cycles: %v; want %v", got, want)
	}
}

// The chapter's example.
func TestExample(t *testing.T) {
	l := stats.Cycles(start(3, 1), at(5, api.Freed), at(9, api.Rested))
	if len(l) != 1 || stats.Line(l[0]) != "cycle 1 start 3 marked -1 rested 9 freed 1" {
		t.Error("Cycles:", l)
	}
}

func TestCycles(t *testing.T) {
	for _, x := range []struct {
		events []api.Event
		want   []stats.Cycle
	}{
		{nil, nil},
		{[]api.Event{at(1, api.Freed), at(2, api.Marked), at(3, api.Rested), did(0, 0, api.OK)}, nil}, // none begins
		{[]api.Event{start(0, 1)}, []stats.Cycle{{1, 0, -1, -1, 0}}},
		{[]api.Event{start(4, 1), at(6, api.Marked), at(9, api.Rested)}, []stats.Cycle{{1, 4, 6, 9, 0}}},
		{[]api.Event{start(4, 1), at(6, api.Marked)}, []stats.Cycle{{1, 4, 6, -1, 0}}},
		{[]api.Event{start(4, 1), at(6, api.Rested)}, []stats.Cycle{{1, 4, -1, 6, 0}}},
		{[]api.Event{start(4, 1), at(0, api.Marked), at(0, api.Rested)}, []stats.Cycle{{1, 4, 0, 0, 0}}},
		// The first ones count, in whatever order they come.
		{[]api.Event{start(4, 1), at(6, api.Marked), at(7, api.Marked), at(8, api.Rested), at(9, api.Rested)}, []stats.Cycle{{1, 4, 6, 8, 0}}},
		{[]api.Event{start(4, 1), at(6, api.Rested), at(7, api.Marked), at(8, api.Marked), at(9, api.Rested)}, []stats.Cycle{{1, 4, 7, 6, 0}}},
		{[]api.Event{start(4, 1), at(9, api.Marked), at(8, api.Rested), at(2, api.Marked), at(1, api.Rested)}, []stats.Cycle{{1, 4, 9, 8, 0}}},
		// What is freed ahead of a cycle, or behind it, isn't its own.
		{[]api.Event{at(1, api.Freed), start(4, 1), at(5, api.Freed), at(6, api.Marked), at(7, api.Freed), at(8, api.Freed), at(9, api.Rested), at(10, api.Freed)}, []stats.Cycle{{1, 4, 6, 9, 3}}},
		{[]api.Event{start(4, 1), at(5, api.Freed), at(6, api.Rested), at(7, api.Freed), at(8, api.Rested), at(9, api.Freed)}, []stats.Cycle{{1, 4, -1, 6, 1}}},
		{[]api.Event{start(4, 1), at(5, api.Freed), at(6, api.Freed)}, []stats.Cycle{{1, 4, -1, -1, 2}}},
		// The next one ends it, whether it has rested or not.
		{[]api.Event{start(4, 1), at(5, api.Freed), start(6, 2), at(7, api.Freed), at(7, api.Freed), at(8, api.Marked), at(9, api.Rested)}, []stats.Cycle{{1, 4, -1, -1, 1}, {2, 6, 8, 9, 2}}},
		{[]api.Event{start(4, 1), at(5, api.Marked), start(6, 2), at(7, api.Rested)}, []stats.Cycle{{1, 4, 5, -1, 0}, {2, 6, -1, 7, 0}}},
		{[]api.Event{start(4, 1), at(5, api.Rested), at(6, api.Freed), start(6, 2), at(7, api.Freed)}, []stats.Cycle{{1, 4, -1, 5, 0}, {2, 6, -1, -1, 1}}},
		{[]api.Event{start(4, 1), start(4, 1), start(5, 1)}, []stats.Cycle{{1, 4, -1, -1, 0}, {1, 4, -1, -1, 0}, {1, 5, -1, -1, 0}}},
		// Any number, any pick, in any order, are told as they are.
		{[]api.Event{start(9, 0), start(3, -7), start(math.MinInt, math.MaxInt)}, []stats.Cycle{{0, 9, -1, -1, 0}, {-7, 3, -1, -1, 0}, {math.MaxInt, math.MinInt, -1, -1, 0}}},
		{[]api.Event{start(9, 1), at(-1, api.Marked), at(3, api.Marked), at(-1, api.Rested), at(4, api.Rested), at(5, api.Freed)}, []stats.Cycle{{1, 9, -1, -1, 0}}},
		{[]api.Event{start(-1, 1), at(-5, api.Marked), at(math.MinInt, api.Rested)}, []stats.Cycle{{1, -1, -5, math.MinInt, 0}}},
		// Others are of no account.
		{[]api.Event{start(4, 1), did(0, 0, api.OK), at(5, 0), at(5, 6), at(5, -1), at(5, 1<<32+api.Marked), at(5, math.MaxInt), at(6, api.Marked), did(2, 9, api.ErrNil), at(9, api.Rested)}, []stats.Cycle{{1, 4, 6, 9, 0}}},
	} {
		are(t, stats.Cycles(x.events...), x.want...)
	}
}

// Each tells the cycles with their places, and can be left, and begun again.
func TestEach(t *testing.T) {
	events := []api.Event{at(1, api.Freed), start(3, 1), at(9, api.Rested), start(20, 2), at(21, api.Freed), at(22, api.Marked), start(30, 3)}
	want := []stats.Cycle{{1, 3, -1, 9, 0}, {2, 20, 22, -1, 1}, {3, 30, -1, -1, 0}}
	each := stats.Each(events...)
	for last := range want {
		var places []int
		var l []stats.Cycle
		for i, c := range each {
			places, l = append(places, i), append(l, c)
			if i == last {
				break
			}
		}
		if !slices.Equal(places, []int{0, 1, 2}[:last+1]) {
			t.Error("the places:", places)
		}
		are(t, l, want[:last+1]...)
	}
	for i, c := range stats.Each() {
		t.Error("Each of none:", i, c)
	}
	for i, c := range stats.Each(at(1, api.Freed), at(2, api.Rested)) {
		t.Error("Each without a cycle:", i, c)
	}
}

// What is handed in is neither changed nor kept, and what is answered is new memory.
func TestSharesNothing(t *testing.T) {
	room := []api.Event{start(3, 1), at(9, api.Rested), start(20, 2), start(30, 3)}
	events := room[:3]
	kept := slices.Clone(room)
	l, each := stats.Cycles(events...), stats.Each(events...)
	p := [][]api.Op{lines(t, "alloc 0 1", "safe")[:1]}
	stats.Total(p, events...)
	stats.Codes(events...)
	stats.Longest(l...)
	if !slices.Equal(room, kept) || p[0][:2][1] != (api.Op{Kind: api.Safe}) {
		t.Error("changed:", room, p)
	}
	events[0].Pick, events[1].Kind, events[2].Kind = 99, api.Freed, api.Freed
	_ = append(l, stats.Cycle{})
	l[0].Start = 50
	for range 2 {
		var told []stats.Cycle
		for i, c := range each {
			told = append(told, c)
			events[i].Pick = 77
		}
		are(t, told, stats.Cycle{1, 3, -1, 9, 0}, stats.Cycle{2, 20, -1, -1, 0})
	}
	are(t, stats.Cycles(kept[:3]...), stats.Cycle{1, 3, -1, 9, 0}, stats.Cycle{2, 20, -1, -1, 0})
}

func TestLongest(t *testing.T) {
	for _, x := range []struct {
		l    []stats.Cycle
		want int
		ok   bool
	}{
		{nil, 0, false},
		{[]stats.Cycle{{1, 3, 5, -1, 2}}, 0, false},
		{[]stats.Cycle{{1, 3, 5, -1, 2}, {2, -9, 4, -2, 0}, {3, 0, 4, math.MinInt, 0}}, 0, false},
		{[]stats.Cycle{{1, 3, 5, 10, 2}}, 7, true},
		{[]stats.Cycle{{1, 0, -1, 0, 2}}, 0, true},
		{[]stats.Cycle{{1, 3, 5, 10, 2}, {2, 11, 12, 13, 9}, {3, 20, 27, 28, 0}, {4, 30, 30, 31, 1}}, 8, true},
		{[]stats.Cycle{{9, 0, 5, 4, 100}, {1, 0, 50, 3, 200}}, 4, true}, // it is of no account when marking ended, or how many were freed
		{[]stats.Cycle{{1, 100, 5, -1, 2}, {2, 4, 5, 6, 0}, {3, -50, 1, -1, 0}}, 2, true},
		{[]stats.Cycle{{1, 10, -1, 3, 0}}, -7, true}, // whatever they are
		{[]stats.Cycle{{1, 10, -1, 3, 0}, {1, 9, -1, 0, 0}, {1, 12, -1, 8, 0}}, -4, true},
		{[]stats.Cycle{{1, -10, -1, 3, 0}, {1, 0, -1, 12, 0}}, 13, true},
		{[]stats.Cycle{{1, 0, 0, math.MaxInt, 0}, {1, 1, 0, math.MaxInt, 0}}, math.MaxInt, true},
	} {
		if n, ok := stats.Longest(x.l...); n != x.want || ok != x.ok {
			t.Errorf("Longest(%v): %d, %v; want %d, %v", x.l, n, ok, x.want, x.ok)
		}
	}
}

func TestLine(t *testing.T) {
	for want, c := range map[string]stats.Cycle{
		"cycle 0 start 0 marked 0 rested 0 freed 0":                        {},
		"cycle 1 start 2 marked 3 rested 4 freed 5":                        {1, 2, 3, 4, 5},
		"cycle 1 start 3 marked -1 rested 9 freed 1":                       {1, 3, -1, 9, 1},
		"cycle 10 start 200 marked 3000 rested 40000 freed 500000":         {10, 200, 3000, 40000, 500000},
		"cycle -1 start -20 marked -300 rested -4000 freed -5":             {-1, -20, -300, -4000, -5},
		"cycle 9223372036854775807 start 0 marked -1 rested -1 freed 0":    {math.MaxInt, 0, -1, -1, 0},
		"cycle 0 start -9223372036854775808 marked -10 rested 10 freed 10": {0, math.MinInt, -10, 10, 10},
	} {
		if line := stats.Line(c); line != want {
			t.Errorf("Line(%v): %q; want %q", c, line, want)
		}
	}
}

func TestTotal(t *testing.T) {
	p := [][]api.Op{lines(t, "alloc 0 1", "safe", "alloc 0 16"), nil, lines(t, "drop 0", "alloc 1 0")}
	for _, x := range []struct {
		events []api.Event
		want   stats.Sum
	}{
		{nil, stats.Sum{}},
		{[]api.Event{did(0, 0, api.OK)}, stats.Sum{Ops: 1, Allocs: 1}},
		{[]api.Event{did(0, 1, api.OK)}, stats.Sum{Ops: 1}},
		{[]api.Event{did(0, 2, api.OK)}, stats.Sum{Ops: 1, Allocs: 1}}, // it ended well, as is told
		{[]api.Event{did(0, 2, api.ErrSize)}, stats.Sum{Ops: 1, Errors: 1}},
		{[]api.Event{did(0, 0, api.ErrMemory)}, stats.Sum{Ops: 1, Errors: 1, Full: 1}},
		{[]api.Event{did(0, 1, api.ErrMemory)}, stats.Sum{Ops: 1, Errors: 1, Full: 1}},
		{[]api.Event{did(2, 0, api.OK), did(2, 1, api.OK), did(2, 1, api.OK)}, stats.Sum{Ops: 3, Allocs: 2}},
		// There is no such place, or no such program.
		{[]api.Event{did(0, 3, api.OK), did(0, -1, api.OK), did(0, math.MinInt, api.OK), did(0, math.MaxInt, api.OK)}, stats.Sum{Ops: 4}},
		{[]api.Event{did(1, 0, api.OK), did(3, 0, api.OK), did(-1, 0, api.OK), did(math.MinInt, 0, api.OK), did(math.MaxInt, 0, api.OK)}, stats.Sum{Ops: 5}},
		{[]api.Event{did(3, 0, api.ErrMemory), did(1, 0, api.ErrMemory), did(0, 9, api.ErrNil)}, stats.Sum{Ops: 3, Errors: 3, Full: 2}},
		// Whatever isn't OK is an error.
		{[]api.Event{did(0, 0, -1), did(0, 0, 15), did(0, 0, math.MinInt), did(0, 0, math.MaxInt), did(0, 0, api.ErrWord), did(0, 0, api.ErrArg)}, stats.Sum{Ops: 6, Errors: 6}},
		{[]api.Event{start(1, 1), start(2, 9), at(3, api.Freed), at(3, api.Freed), at(3, api.Freed), at(4, api.Marked), at(5, api.Rested)}, stats.Sum{Freed: 3, Cycles: 2}},
		// Codes count just of operations, and so do allocs.
		{[]api.Event{{Kind: api.Freed, Code: api.ErrMemory}, {Kind: api.Start, Code: api.ErrNil}, {Kind: api.Marked, Code: api.ErrMemory}, {Kind: 0}, {Kind: 6}, {Kind: -1}, {Kind: 1<<32 + api.Did}}, stats.Sum{Freed: 1, Cycles: 1}},
		{[]api.Event{did(0, 0, api.OK), start(1, 1), did(0, 0, api.ErrMemory), did(2, 0, api.OK), at(2, api.Freed), did(2, 0, api.ErrReg), at(2, api.Rested)}, stats.Sum{Ops: 4, Errors: 2, Allocs: 1, Freed: 1, Cycles: 1, Full: 1}},
	} {
		if s := stats.Total(p, x.events...); s != x.want {
			t.Errorf("Total(%v): %v; want %v", x.events, s, x.want)
		}
	}
	for _, none := range [][][]api.Op{nil, {}, {nil}, {{}}} {
		if s := stats.Total(none, did(0, 0, api.OK), did(1, 0, api.ErrMemory)); s != (stats.Sum{Ops: 2, Errors: 1, Full: 1}) {
			t.Error("Total without programs:", s)
		}
	}
}

func TestCodes(t *testing.T) {
	if codes := stats.Codes(); codes != [15]int{} {
		t.Error("Codes of none:", codes)
	}
	var events []api.Event
	var want [15]int
	for code := api.OK; code <= api.ErrWord; code++ {
		for range 2*code + 1 {
			events = append(events, did(0, 0, code))
			want[code]++
		}
	}
	for _, code := range []api.Errno{math.MinInt, -15, -1, 15, 16, 1 << 32, math.MaxInt} {
		events = append(events, did(0, 0, code)) // counts nowhere
	}
	for _, kind := range []int{-1, 0, api.Start, api.Marked, api.Rested, api.Freed, 6, 1<<32 + api.Did} {
		events = append(events, api.Event{Kind: kind}, api.Event{Kind: kind, Code: api.ErrMemory})
	}
	if codes := stats.Codes(events...); codes != want {
		t.Errorf("Codes: %v; want %v", codes, want)
	}
}
