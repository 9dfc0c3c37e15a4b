package console_test

import (
	"slices"
	"testing"

	"dustpan/api"
	"dustpan/ghost"
	"dustpan/guess"
	"dustpan/world"
)

// race is a world that is picked by hand, up to what is to be seen of it.
type race struct {
	*world.World
	t *testing.T
}

// raced is a race in the world of lines.
func raced(t *testing.T, l ...string) race {
	t.Helper()
	c := with(t, l...)
	tells(t, c, "live", "ok 0 0")
	return race{c.World(), t}
}

// picks picks one so often.
func (r race) picks(who, n int) {
	r.t.Helper()
	if done, e := r.Run(slices.Repeat([]int{who}, n)...); e != api.OK {
		r.t.Fatal("a pick is refused:", who, done, e)
	}
}

// until picks one until something holds.
func (r race) until(who int, what string, holds func() bool) {
	r.t.Helper()
	for n := 0; !holds(); n++ {
		if n == 1000 {
			r.t.Fatal("it never comes to this:", what)
		}
		r.picks(who, 1)
	}
}

// ends picks a mutator until so many of its operations have ended.
func (r race) ends(id, n int) {
	r.t.Helper()
	r.until(id, "the end of an operation", func() bool { return len(r.Mut(id).Results()) >= n })
}

// reads picks a mutator until its store has read what is there.
func (r race) reads(id int) {
	r.t.Helper()
	r.until(id, "the midst of a store", func() bool { return r.Mut(id).Held() != 0 })
}

// answers picks mutators until they have answered.
func (r race) answers(ids ...int) {
	r.t.Helper()
	for _, id := range ids {
		r.until(id, "an answer", func() bool { return r.Shared().Board.Answered(id) })
	}
}

// collects picks the collector until it is in a phase.
func (r race) collects(phase int) {
	r.t.Helper()
	r.until(r.Config().Muts, "a phase", func() bool { return r.Coll().Phase() == phase })
}

// wishes has a cycle begin.
func (r race) wishes() {
	r.t.Helper()
	r.picks(r.Config().Muts+1, 1)
	r.collects(api.Arm)
}

// traces has mutators answer up to Trace.
func (r race) traces(ids ...int) {
	r.t.Helper()
	for _, phase := range []int{api.Sync, api.Scan, api.Trace} {
		r.answers(ids...)
		r.collects(phase)
	}
}

// rests goes on by turns until the cycle has ended: what was reached when marking ended was painted, and all is sound.
func (r race) rests() {
	r.t.Helper()
	for n := 0; !r.Idle(); n++ {
		if n == 1000 {
			r.t.Fatal("no end of the cycle")
		}
		for who := range r.Config().Muts + 1 {
			r.picks(who, 1)
			l := r.Events()
			if last := l[len(l)-1]; last.Kind == api.Marked && last.Pick == r.Picks()-1 && !ghost.Painted(r.World) {
				r.t.Error("not all that is reached is painted")
			}
			if f, ok := ghost.Sound(r.World); !ok {
				r.t.Fatal("not sound:", f)
			}
		}
	}
}

// has looks at what a register has, and at all objects.
func (r race) has(id, reg, want int, objects ...int) {
	r.t.Helper()
	if got := r.Mut(id).Regs()[reg]; got != want {
		r.t.Errorf("the register %d of %d: %d; want %d", reg, id, got, want)
	}
	if got := r.Shared().Heap.Objects(); !slices.Equal(got, objects) {
		r.t.Errorf("the objects: %d; want %d", got, objects)
	}
}

// P1, P3: of what is got, and overwritten at once, a register has the only way to it.
func TestGotAndOverwritten(t *testing.T) {
	for when := range 12 {
		r := raced(t, "config 4 16 2 1 1 1 1", "mut 0 alloc 0 0", "mut 0 set 0 0", "mut 0 drop 0", "mut 0 set 0 0", "mut 1 get 0 0")
		r.ends(0, 3)
		r.wishes()
		r.traces(0, 1)
		r.ends(1, 1)
		r.picks(2, when%3)
		r.ends(0, 4)
		r.picks(2, when/3)
		r.rests()
		r.has(1, 0, 1, 1)
	}
}

// P1, P3: two mutators overwrite one cell: the one reads ahead of what the other one lays, and lays behind it, so that what was laid between is in no log but that of who laid it.
func TestTwoStores(t *testing.T) {
	r := raced(t, "config 4 16 3 1 1 2 2", "mut 0 alloc 0 0", "mut 0 set 0 0", "mut 0 alloc 0 0", "mut 0 set 0 0", "mut 1 alloc 0 0", "mut 1 set 0 0", "mut 1 drop 0", "mut 2 get 0 0")
	r.ends(0, 3)
	r.ends(1, 1)
	r.wishes()
	r.answers(0, 1, 2)
	r.collects(api.Sync)
	r.answers(0)
	r.reads(0)
	r.answers(1)
	r.ends(1, 3)
	r.answers(2)
	r.collects(api.Scan)
	r.answers(2)
	r.ends(2, 1)
	r.ends(0, 4)
	r.rests()
	r.has(2, 0, 5, 1, 3, 5)
}

// P1, P3: likewise, but what is laid between is laid by one who doesn't log yet, as its store was begun ahead of the cycle: so no register is looked at before both stores have ended.
func TestStoreBegunAhead(t *testing.T) {
	r := raced(t, "config 4 16 2 1 1 2 2", "mut 0 alloc 0 0", "mut 0 set 0 0", "mut 0 alloc 0 0", "mut 0 set 0 0", "mut 1 alloc 0 0", "mut 1 set 0 0", "mut 1 drop 0", "mut 1 get 0 0")
	r.ends(0, 3)
	r.ends(1, 1)
	r.picks(1, 1)
	r.wishes()
	r.answers(0)
	r.reads(0)
	r.ends(1, 2)
	r.answers(1)
	r.ends(1, 3)
	for range 2 {
		r.picks(2, 10)
		r.answers(1)
	}
	r.ends(1, 4)
	r.ends(0, 4)
	r.rests()
	r.has(1, 0, 5, 1, 3, 5)
}

// P1, P3: what a register has is handed over when mutators are asked of Drain; what is taken from that, and overwritten there, before the collector has looked at it, is logged behind the answer.
func TestTakenBehindDrain(t *testing.T) {
	r := raced(t, "config 4 16 1 3 1 2 2", "mut 0 alloc 1 1", "mut 0 alloc 0 1", "mut 0 store 0 0 1", "mut 0 drop 1", "mut 0 load 1 0 0", "mut 0 store 0 0 2")
	r.ends(0, 4)
	r.wishes()
	r.traces(0)
	r.collects(api.Drain)
	r.answers(0)
	r.ends(0, 6)
	r.rests()
	r.has(0, 1, 1, 1, 3)
}

// P1, P3: marking doesn't end between a mutator's painting of what it has logged, where its box has some still, and its raising of the flag.
func TestPaintedButNotRaised(t *testing.T) {
	r := raced(t, "config 8 16 1 4 2 2 4",
		"mut 0 alloc 0 0", "mut 0 alloc 1 2", "mut 0 store 1 0 0", "mut 0 alloc 0 0", "mut 0 store 1 1 0", // the second one has the first one, and a third one
		"mut 0 alloc 0 1", "mut 0 store 0 0 1", "mut 0 set 0 0", "mut 0 alloc 0 1", "mut 0 set 1 0", "mut 0 drop 0", "mut 0 drop 1", // the cells have one that has the second one, and one that has none
		"mut 0 get 0 1", "mut 0 get 1 0", "mut 0 load 2 1 0", "mut 0 store 0 0 2", "mut 0 store 1 0 3", // the second one goes from the one to the other, and is logged twice
		"mut 0 load 3 2 0", "mut 0 store 0 0 1", "mut 0 store 2 0 1", // logged: the second one, and the first one
		"mut 0 store 2 1 1") // there is no room in the log for the third one, nor in the box
	r.ends(0, 12)
	first, second := r.Mut(0).Results()[0].Value, r.Mut(0).Results()[1].Value
	isPainted := func(a int) bool {
		k, _ := r.Shared().Heap.Color(a)
		return k == r.Coll().Color()
	}
	r.wishes()
	r.traces(0)
	r.until(1, "both cells looked at", func() bool { return len(r.Coll().Stacked()) == 2 })
	r.picks(1, 2) // the one that has none is looked at first
	r.ends(0, 17)
	r.collects(api.Drain)
	r.answers(0)
	r.until(0, "painted", func() bool { return isPainted(second) })
	if isPainted(first) || r.Shared().Flag.Up() || !r.Mut(0).Busy() {
		t.Fatal("it isn't as it should be")
	}
	r.picks(1, 500)
	r.rests()
	r.has(0, 3, first, r.Shared().Heap.Objects()...)
	if !r.Shared().Heap.Is(first) {
		t.Error("what a register has is freed")
	}
}

// racing is a race of little, whose programs hand on what they have at first; and of each program so many operations make that.
func racing(t *testing.T, roll guess.Rule) (race, int) {
	t.Helper()
	c := api.Config{Blocks: 8, Words: 16, Muts: 1 + roll(3), Regs: 1 + roll(3), Cells: 1, Log: 1 + roll(2), Stack: 1 + roll(2)}
	kinds := []int{api.Set, api.Get, api.Drop}
	if roll(2) == 0 {
		kinds = append(kinds, api.Set, api.Get, api.Drop, api.Alloc, api.Move, api.Load, api.Store, api.Load, api.Store)
	}
	programs, ahead, size := make([][]api.Op, c.Muts), 3+3*roll(3), 1+roll(3)
	for id := range programs {
		for range ahead / 3 {
			at := roll(c.Regs)
			programs[id] = append(programs[id], api.Op{Kind: api.Alloc, A: at, B: size}, api.Op{Kind: api.Store, A: at, C: roll(c.Regs)}, api.Op{Kind: api.Store, A: at, B: size - 1, C: roll(c.Regs)})
		}
		for range 10 {
			programs[id] = append(programs[id], handing(roll, kinds[roll(len(kinds))], c.Regs, size))
		}
	}
	w, e := world.New(c, programs...)
	if e != api.OK {
		t.Fatal("no world:", e)
	}
	return race{w, t}, ahead
}

// handing is an operation of a kind, where there is one cell, and all objects have one size.
func handing(roll guess.Rule, kind, regs, size int) api.Op {
	o := api.Op{Kind: kind, A: roll(regs), B: roll(regs), C: roll(regs)}
	switch kind {
	case api.Alloc:
		o.B = size
	case api.Load:
		o.C = roll(size)
	case api.Store:
		o.B = roll(size)
	case api.Get:
		o.B = 0
	case api.Set:
		o.A = 0
	}
	return o
}

// step picks the collector a few times, but no further than into its next phase; or a mutator up to the midst of a store, at most a few times or not, or to the end of what it has begun.
func (r race) step(roll guess.Rule, who int) {
	m, phase := r.Mut(who), r.Coll().Phase()
	if m == nil {
		for n := 1 << roll(6); n > 0 && r.Coll().Phase() == phase; n-- {
			r.picks(who, 1)
		}
		return
	}
	most, ends := roll(4), roll(3) == 0
	if roll(2) == 0 {
		most = 1000
	}
	for r.picks(who, 1); m.Busy() && (ends || most > 0 && m.Held() == 0); most-- {
		r.picks(who, 1)
	}
}

// goes has everybody picked, of whom some are slow at times, until marking has ended, or no longer.
func (r race) goes(roll guess.Rule) {
	slow := make([]int, r.Config().Muts+1)
	for i := 0; i < 400 && r.Coll().Phase() < api.Sweep; i++ {
		who := roll(r.Config().Muts + 1)
		if slow[who] > i {
			continue
		}
		r.step(roll, who)
		if m := r.Mut(who); m.Held() != 0 && roll(2) == 0 || m.Busy() && roll(5) == 0 {
			slow[who] = i + roll(30)
		}
	}
}

// P1, P3: whoever is slow, wherever that is: what is reached when marking ends is painted.
func TestRaces(t *testing.T) {
	marked := 0
	for seed := range uint64(20000) {
		roll := guess.By(seed + 5000)
		r, ahead := racing(t, roll)
		for id := range r.Config().Muts {
			r.ends(id, ahead)
			r.picks(id, roll(2)*roll(4)) // some are in the midst of an operation
		}
		r.wishes()
		r.goes(roll)
		if r.Coll().Phase() < api.Sweep {
			continue
		}
		marked++
		if !ghost.Painted(r.World) {
			t.Fatal("not all that is reached is painted, by the seed", seed)
		}
	}
	if marked < 15000 {
		t.Error("marking ended too seldom:", marked)
	}
}
