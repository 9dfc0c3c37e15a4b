package console_test

import (
	"slices"
	"strings"
	"testing"

	"dustpan/api"
	"dustpan/console"
)

// cycle has a cycle begin, which ends within so many turns.
func cycle(t *testing.T, c *console.Console, turns string) {
	t.Helper()
	if got := c.Run("wish\nturn " + turns); strings.Contains(got, "error") || !c.World().Idle() {
		t.Fatalf("no end of the cycle: %q", got)
	}
}

// lone is the line of a config of one mutator, of 2 registers, one cell, and a Log and a Stack of 1.
const lone = "config 4 16 1 2 1 1 1"

// Of the ten examples of the whole the first three.
func TestObjectsStayAndGo(t *testing.T) {
	c := with(t, lone, "mut 0 alloc 0 1", "mut 0 alloc 1 1", "mut 0 store 0 0 1", "mut 0 drop 1")
	tells(t, c, "turn 40", "ok 4")
	cycle(t, c, "80")
	tells(t, c, "live", "ok 2 0")
	c = with(t, lone, "mut 0 alloc 0 1", "mut 0 alloc 1 1", "mut 0 store 0 0 1", "mut 0 drop 1", "mut 0 drop 0")
	tells(t, c, "turn 40", "ok 5", "live", "ok 2 2")
	cycle(t, c, "80")
	tells(t, c, "live", "ok 0 0", "free 0", "ok 8")
	c = with(t, lone, "mut 0 alloc 0 1", "mut 0 alloc 1 1", "mut 0 store 0 0 1", "mut 0 store 1 0 0", "mut 0 drop 0", "mut 0 drop 1")
	tells(t, c, "turn 50", "ok 6", "live", "ok 2 2")
	cycle(t, c, "80")
	tells(t, c, "live", "ok 0 0")
}

// The fifth one, and one of as many objects, each of which one object has.
func TestLongAndWide(t *testing.T) {
	l := []string{lone}
	for range 30 {
		l = append(l, "mut 0 alloc 1 1", "mut 0 store 1 0 0", "mut 0 move 0 1")
	}
	c := with(t, append(l, "mut 0 set 0 0", "mut 0 drop 0", "mut 0 drop 1")...)
	tells(t, c, "turn 400", "ok 93", "live", "ok 30 0")
	for range 2 {
		cycle(t, c, "1000")
		tells(t, c, "live", "ok 30 0")
	}
	l = []string{"config 8 16 1 3 1 1 1", "mut 0 alloc 0 15"}
	for _, field := range strings.Fields("0 1 2 3 4 5 6 7 8 9 10 11 12 13 14") {
		l = append(l, "mut 0 alloc 1 1", "mut 0 alloc 2 1", "mut 0 store 1 0 2", "mut 0 store 0 "+field+" 1")
	}
	c = with(t, append(l, "mut 0 set 0 0", "mut 0 drop 0", "mut 0 drop 1", "mut 0 drop 2")...)
	tells(t, c, "turn 500", "ok 65", "live", "ok 31 0")
	for range 2 {
		cycle(t, c, "1000")
		tells(t, c, "live", "ok 31 0")
	}
}

// The sixth one: what is made from Trace on is of the collector's color, and stays by that cycle, though nothing reaches it any more.
func TestMadeFromTraceOn(t *testing.T) {
	for _, phase := range []int{api.Trace, api.Drain, api.Sweep, api.Off} {
		c := with(t, lone, "mut 0 alloc 0 1", "mut 0 drop 0")
		tells(t, c, "wish", "ok 0", "pick 1", "ok 1")
		r := race{c.World(), t}
		for r.Coll().Phase() != phase {
			for !r.Shared().Board.Answered(0) {
				r.picks(0, 1)
			}
			r.picks(1, 1)
		}
		r.ends(0, 1)
		if k, e := r.Shared().Heap.Color(1); k != r.Coll().Color() || e != api.OK {
			t.Error("another color, made by the phase", phase)
		}
		tells(t, c, "turn 200", "ok 5", "live", "ok 1 1")
		cycle(t, c, "200")
		tells(t, c, "live", "ok 0 0")
	}
}

// The seventh and the eighth one.
func TestErrorsOfOperations(t *testing.T) {
	c := with(t, lone, "mut 0 load 0 1 0", "mut 0 alloc 0 1", "mut 0 store 0 9 0", "mut 0 alloc 0 16", "mut 0 load 0 0 1", "mut 0 set 1 0", "mut 0 get 2 0", "mut 0 store 0 0 0")
	tells(t, c, "turn 40", "ok 8", "event 0", "2 0 did 0 6 0", "event 1", "28 0 did 1 0 1", "event 2", "32 0 did 2 7 0", "event 3", "36 0 did 3 8 0", "event 4", "40 0 did 4 7 0", "event 5", "44 0 did 5 9 0", "event 6", "48 0 did 6 5 0", "event 7", "54 0 did 7 0 0", "reg 0 0", "ok 1", "live", "ok 1 0")
	c = with(t, "config 1 16 1 1 0 1 1", "mut 0 alloc 0 7", "mut 0 alloc 0 7", "mut 0 alloc 0 7", "mut 0 alloc 0 3", "mut 0 safe")
	tells(t, c, "turn 60", "ok 5", "reg 0 0", "ok 9", "live", "ok 2 1", "free 2", "ok 0")
	var codes []api.Errno
	for _, e := range c.World().Events() {
		codes = append(codes, e.Code)
	}
	if !slices.Equal(codes, []api.Errno{api.OK, api.OK, api.ErrMemory, api.ErrMemory, api.OK}) {
		t.Error("the errors:", codes)
	}
}

// The ninth one: who isn't picked lets no other one wait, but no cycle ends.
func TestWhoIsntPicked(t *testing.T) {
	c := with(t, "mut 0 alloc 0 1", "mut 1 alloc 0 1", "mut 1 set 0 0", "mut 1 drop 0")
	tells(t, c, "wish", "ok 0", "pick 2", "ok 1")
	for range 100 {
		c.Do("pick 1 2")
	}
	tells(t, c, "state", "arm 202 1 busy", "live", "ok 1 0", "turn 100", "ok 7", "state", "idle 502 1 done", "live", "ok 2 0")
}
