package stats_test

import (
	"testing"

	"dustpan/api"
	"dustpan/guess"
	"dustpan/stats"
	"dustpan/world"
)

// some is as many programs as that, each of n operations by a rule, those that are wrong among them.
func some(roll guess.Rule, many, n int) [][]api.Op {
	l := make([][]api.Op, many)
	for m := range l {
		for range n {
			l[m] = append(l[m], api.Op{Kind: roll(10), A: roll(4), B: roll(4), C: roll(4)})
		}
	}
	return l
}

// first is the pick of the first event of a kind; -1, if there is none.
func first(events []api.Event, kind int) int {
	for _, e := range events {
		if e.Kind == kind {
			return e.Pick
		}
	}
	return -1
}

// number is how many events are as is asked.
func number(events []api.Event, is func(e api.Event) bool) int {
	n := 0
	for _, e := range events {
		if is(e) {
			n++
		}
	}
	return n
}

// ahead is the events ahead of the first one of a kind; all, if there is none.
func ahead(events []api.Event, kind int) []api.Event {
	for i, e := range events {
		if e.Kind == kind {
			return events[:i]
		}
	}
	return events
}

// plainCycles is the chapter's words: what stands between a start and the next one is gone through anew for each thing that is told.
func plainCycles(events []api.Event) []stats.Cycle {
	var l []stats.Cycle
	for i, e := range events {
		if e.Kind == api.Start {
			own := ahead(events[i+1:], api.Start)
			freed := number(ahead(own, api.Rested), func(e api.Event) bool { return e.Kind == api.Freed })
			l = append(l, stats.Cycle{Number: e.Value, Start: e.Pick, Marked: first(own, api.Marked), Rested: first(own, api.Rested), Freed: freed})
		}
	}
	return l
}

// plainTotal is the chapter's words, one by one.
func plainTotal(programs [][]api.Op, events []api.Event) stats.Sum {
	kind := func(k int) func(e api.Event) bool {
		return func(e api.Event) bool { return e.Kind == k }
	}
	return stats.Sum{
		Ops:    number(events, kind(api.Did)),
		Errors: number(events, func(e api.Event) bool { return e.Kind == api.Did && e.Code != api.OK }),
		Allocs: number(events, func(e api.Event) bool {
			if e.Kind != api.Did || e.Code != api.OK || e.Who < 0 || e.Who >= len(programs) {
				return false
			}
			p := programs[e.Who]
			return e.Op >= 0 && e.Op < len(p) && p[e.Op].Kind == api.Alloc
		}),
		Freed:  number(events, kind(api.Freed)),
		Cycles: number(events, kind(api.Start)),
		Full:   number(events, func(e api.Event) bool { return e.Kind == api.Did && e.Code == api.ErrMemory }),
	}
}

// looks holds all that is told of events against the chapter's words.
func looks(t *testing.T, programs [][]api.Op, events []api.Event) {
	t.Helper()
	want := plainCycles(events)
	are(t, stats.Cycles(events...), want...)
	n := 0
	for i, c := range stats.Each(events...) {
		if i != n || c != want[i] {
			t.Fatalf("Each: %d, %v; want %d, %v", i, c, n, want[n])
		}
		n++
	}
	if n != len(want) {
		t.Fatal("Each told only so many:", n)
	}
	if s := stats.Total(programs, events...); s != plainTotal(programs, events) {
		t.Fatalf("Total: %v; want %v", s, plainTotal(programs, events))
	}
	for code, n := range stats.Codes(events...) {
		if want := number(events, func(e api.Event) bool { return e.Kind == api.Did && int(e.Code) == code }); n != want {
			t.Fatalf("Codes: of %d there are %d; want %d", code, n, want)
		}
	}
}

// Whatever events there are, of them is told what the chapter says.
func TestAnyEvents(t *testing.T) {
	for seed := range uint64(500) {
		roll := guess.By(seed)
		programs := some(roll, roll(4), roll(6))
		var events []api.Event
		for range roll(80) {
			events = append(events, api.Event{Pick: roll(100) - roll(5), Who: roll(7) - 2, Kind: roll(8) - 1, Op: roll(9) - 2, Code: api.Errno(roll(18) - 2), Value: roll(20)})
			if roll(2) == 0 {
				events[len(events)-1].Code = api.OK
			}
		}
		looks(t, programs, events)
	}
}

// Of a world's events what is told is what its parts tell.
func TestWorlds(t *testing.T) {
	var all stats.Sum
	for seed := range uint64(40) {
		roll := guess.By(seed + 800)
		c := api.Config{Blocks: 1 + roll(3), Words: 16, Muts: 1 + roll(3), Regs: 4, Cells: roll(4), Log: 1 + roll(3), Stack: 1 + roll(5)}
		programs := some(roll, c.Muts, 150)
		w, e := world.New(c, programs...)
		if e != api.OK {
			t.Fatal("no world:", e)
		}
		for range 2500 {
			w.Pick(roll(c.Muts + 2))
		}
		looks(t, programs, w.Events())
		s, codes := stats.Total(programs, w.Events()...), stats.Codes(w.Events()...)
		results := map[api.Errno]int{}
		for m := range c.Muts {
			for _, r := range w.Mut(m).Results() {
				results[r.Code]++
			}
		}
		for code, n := range codes {
			if n != results[api.Errno(code)] {
				t.Fatalf("of the code %d: %d; want %d", code, n, results[api.Errno(code)])
			}
		}
		if s.Cycles != w.Coll().Cycles() || s.Ops != s.Errors+results[api.OK] || s.Full != results[api.ErrMemory] || s.Allocs-s.Freed != len(w.Shared().Heap.Objects()) {
			t.Fatalf("Total: %v; of the objects %v", s, w.Shared().Heap.Objects())
		}
		cycles := stats.Cycles(w.Events()...)
		for i, x := range cycles {
			if rested := i < len(cycles)-1 || !w.Coll().Busy(); x.Number != i+1 || rested != (x.Rested >= 0) || rested && !(x.Start < x.Marked && x.Marked < x.Rested) {
				t.Fatal("a cycle:", x)
			}
		}
		if n, ok := stats.Longest(cycles...); ok && (n < 1 || n > w.Picks()) {
			t.Fatal("Longest:", n)
		}
		all.Ops, all.Errors, all.Allocs = all.Ops+s.Ops, all.Errors+s.Errors, all.Allocs+s.Allocs
		all.Freed, all.Cycles, all.Full = all.Freed+s.Freed, all.Cycles+s.Cycles, all.Full+s.Full
	}
	if all.Ops < 2000 || all.Errors < 500 || all.Allocs < 300 || all.Freed < 200 || all.Cycles < 40 || all.Full < 10 {
		t.Error("too few came:", all)
	}
}

// Many cycles, and a long one, are told at once, as each is looked at only up to the next one.
func TestMany(t *testing.T) {
	const many = 50000
	events := make([]api.Event, 0, 3*many)
	for i := range many {
		events = append(events, start(i, i))
	}
	for i := range 2 * many {
		events = append(events, at(i, api.Freed))
	}
	l := stats.Cycles(events...)
	if len(l) != many || l[many-1] != (stats.Cycle{Number: many - 1, Start: many - 1, Marked: -1, Rested: -1, Freed: 2 * many}) {
		t.Error("Cycles:", len(l))
	}
}
