package replay_test

import (
	"slices"
	"testing"

	"dustpan/api"
	"dustpan/heap"
	"dustpan/replay"
	"dustpan/world"
)

// ended is a world of programs, which have all ended, the one behind the other.
func ended(t *testing.T, c api.Config, programs ...[]api.Op) *world.World {
	t.Helper()
	w, e := world.New(c, programs...)
	if e != api.OK {
		t.Fatal("no world:", e)
	}
	for m := range c.Muts {
		for !w.Mut(m).Done() {
			w.Pick(m)
		}
	}
	return w
}

// replayed is a replay of a world's events, which are all right.
func replayed(t *testing.T, w *world.World, programs ...[]api.Op) *replay.Replay {
	t.Helper()
	r := made(t, w.Config(), programs...)
	if n, ok := r.All(w.Events()...); n != len(w.Events()) || !ok {
		t.Fatal("All:", n, ok)
	}
	return r
}

// is looks at whether a world is the same.
func is(t *testing.T, what string, r *replay.Replay, w *world.World, want bool) {
	t.Helper()
	if r.Same(w) != want {
		t.Errorf("%s: Same isn't %v", what, want)
	}
}

// A world is the same behind all of its events, but not behind those ahead of one that has changed something.
func TestSame(t *testing.T) {
	for _, x := range []struct {
		what  string
		last  string
		other bool // whether the last operation changes something
	}{
		{"a register is dropped", "drop 1", true},
		{"a register is another one's", "move 2 1", true},
		{"a register is loaded", "load 2 0 0", true},
		{"a register is loaded with nothing", "load 1 0 1", true},
		{"a register is got", "get 2 0", true},
		{"an object is made", "alloc 2 0", true},
		{"a field is another one's", "store 0 1 1", true},
		{"a field is cleared", "store 0 0 2", true},
		{"a field of what just a field has", "store 1 0 0", true},
		{"a cell is another one's", "set 0 1", true},
		{"a cell is cleared", "set 0 2", true},
		{"the last cell is set", "set 1 0", true},
		{"a field stays", "store 0 0 1", false},
		{"a register stays", "move 0 0", false},
		{"a register is loaded with what it has", "load 1 0 0", false},
		{"a cell stays", "set 1 2", false},
		{"nothing is dropped", "drop 2", false},
		{"safe", "safe", false},
		{"an error", "store 2 0 0", false},
	} {
		p := lines(t, "alloc 0 2", "alloc 1 1", "store 0 0 1", "set 0 0", "drop 2", x.last)
		w := ended(t, small(), p)
		r := made(t, small(), p)
		if n, ok := r.All(w.Events()[:5]...); n != 5 || !ok {
			t.Fatal("All:", n, ok)
		}
		is(t, x.what+", not replayed yet", r, w, !x.other)
		takes(t, r, w.Events()[5])
		is(t, x.what, r, w, true)
	}
}

// Each mutator's registers are looked at.
func TestSameOfEachMutator(t *testing.T) {
	c := small()
	c.Muts = 3
	for m := range 3 {
		for reg := range 3 {
			p := make([][]api.Op, 3)
			p[m] = []api.Op{{Kind: api.Alloc, A: reg, B: 3}}
			w := ended(t, c, p...)
			is(t, "not replayed yet", made(t, c, p...), w, false)
			is(t, "replayed", replayed(t, w, p...), w, true)
		}
	}
}

// A field of what just fields reach is looked at, too, at the end of a list as anywhere.
func TestSameOfFields(t *testing.T) {
	var list []string
	for range 5 {
		list = append(list, "alloc 1 2", "store 1 1 0", "move 0 1")
	}
	list = append(list, "drop 1")
	for depth := range 5 {
		walk := []string{"move 1 0"}
		for range depth {
			walk = append(walk, "load 1 1 1")
		}
		was := append(append([]string{}, list...), append(walk, "alloc 2 0", "drop 2", "drop 1")...)
		now := append(append([]string{}, list...), append(walk, "alloc 2 0", "store 1 0 2", "drop 2", "drop 1")...)
		w := ended(t, small(), lines(t, now...))
		is(t, "the same fields", replayed(t, w, lines(t, now...)), w, true)
		r := replayed(t, ended(t, small(), lines(t, was...)), lines(t, was...))
		is(t, "one other field", r, w, false)
	}
}

// The config is looked at, all of it.
func TestSameOfConfigs(t *testing.T) {
	for i, change := range []func(c *api.Config){
		func(c *api.Config) {},
		func(c *api.Config) { c.Blocks++ },
		func(c *api.Config) { c.Words++ },
		func(c *api.Config) { c.Muts++ },
		func(c *api.Config) { c.Regs++ },
		func(c *api.Config) { c.Cells++ },
		func(c *api.Config) { c.Log++ },
		func(c *api.Config) { c.Stack++ },
	} {
		c := small()
		change(&c)
		w := ended(t, c)
		is(t, "of one config", made(t, c), w, true)
		is(t, "of two configs", made(t, small()), w, i == 0)
		is(t, "of two configs", made(t, c), ended(t, small()), i == 0)
	}
}

// No two that are reached have the same address: then a world can't be the same, though all words are.
func TestSameOfTwins(t *testing.T) {
	w := ended(t, small(), lines(t, "alloc 0 0", "move 1 0"))
	r := made(t, small(), lines(t, "alloc 0 0", "alloc 1 0"))
	takes(t, r, did(0, 0, 1), did(0, 1, 1))
	is(t, "twins", r, w, false)
	is(t, "one", replayed(t, w, lines(t, "alloc 0 0", "move 1 0")), w, true)
	w = ended(t, small(), lines(t, "alloc 0 1", "store 0 0 0"))
	r = made(t, small(), lines(t, "alloc 0 1", "alloc 1 1", "store 0 0 1", "store 1 0 0", "drop 1"))
	takes(t, r, did(0, 0, 1), did(0, 1, 1), did(0, 2, 0), did(0, 3, 0))
	is(t, "a register more", r, w, false)
	takes(t, r, did(0, 4, 0))
	is(t, "a loop of twins", r, w, false)
}

// What isn't reached may have the address of something that is: it was freed.
func TestSameOfGarbage(t *testing.T) {
	w := ended(t, small(), lines(t, "alloc 0 1", "store 0 0 0"))
	p := lines(t, "alloc 0 1", "alloc 1 1", "store 1 0 0", "store 0 0 0", "drop 1")
	r := made(t, small(), p)
	takes(t, r, did(0, 0, 1), did(0, 1, 1), did(0, 2, 0), did(0, 3, 0), did(0, 4, 0))
	is(t, "a twin that isn't reached", r, w, true)
}

// An address that was freed, and comes again, is one of another object.
func TestSameOfWhatComesAgain(t *testing.T) {
	c := small()
	c.Blocks = 1
	var l []string
	for range 30 {
		l = append(l, "alloc 0 1", "store 0 0 0", "alloc 1 0", "alloc 1 0")
	}
	p := lines(t, l...)
	w, _ := world.New(c, p)
	for !w.Done() {
		w.Run(3, 0, 1, 2)
	}
	r := replayed(t, w, p)
	is(t, "what came again", r, w, true)
	times := map[int]int{}
	for id := range r.Graph().Count() {
		times[r.Address(id+1)]++
	}
	if r.Graph().Count() < 3*len(times) {
		t.Error("too few addresses came again:", times)
	}
}

// An address must have all of the fields in the world, too.
func TestSameOfFewerFields(t *testing.T) {
	w := ended(t, small(), lines(t, "alloc 0 1"))
	for fields, want := range map[string]bool{"1": true, "2": false, "15": false} {
		r := made(t, small(), lines(t, "alloc 0 "+fields))
		takes(t, r, did(0, 0, 1))
		is(t, "of fields "+fields, r, w, want)
	}
}

// An address that is none in the world isn't the same, wherever it is.
func TestSameOfNoAddress(t *testing.T) {
	p := lines(t, "alloc 0 1", "set 0 0")
	w := ended(t, small(), p)
	for _, a := range []int{2, 3, 64, 65, 1 << 40} {
		r := made(t, small(), p)
		takes(t, r, did(0, 0, a), did(0, 1, 0))
		is(t, "another address", r, w, false)
	}
}

// Looking changes neither a world nor a replay.
func TestSameChangesNothing(t *testing.T) {
	p := lines(t, "alloc 0 1", "store 0 0 0", "set 0 0", "move 1 0")
	w := ended(t, small(), p)
	r := made(t, small(), p)
	picks, events := w.Picks(), w.Events()
	for i, e := range events {
		for range 3 {
			is(t, "ahead of its end", r, w, false)
		}
		counts(t, r, i)
		takes(t, r, e)
	}
	for range 3 {
		is(t, "again", r, w, true)
	}
	if w.Picks() != picks || !slices.Equal(w.Events(), events) || !slices.Equal(w.Mut(0).Regs(), []int{1, 1, 0}) {
		t.Error("the world has changed")
	}
}

// Whatever somebody laid into a world's parts, it can be looked at.
func TestSameOfOtherParts(t *testing.T) {
	p := lines(t, "alloc 0 1", "set 1 0")
	w := ended(t, small(), p)
	r := replayed(t, w, p)
	s := w.Shared()
	is(t, "its own heap", r, w, true)
	own := s.Heap
	s.Heap = nil
	is(t, "no heap", r, w, false)
	c := small()
	c.Cells = 1
	s.Heap, _ = heap.New(c)
	is(t, "a heap of another config", r, w, false)
	s.Heap = own
	is(t, "its own heap again", r, w, true)
	own.SetCell(1, 3)
	is(t, "another cell", r, w, false)
	own.SetCell(1, 1)
	own.Store(1, 0, 1)
	is(t, "another field", r, w, false)
}

// Of a nil replay, or a nil world, nothing is the same.
func TestSameOfNil(t *testing.T) {
	var none *replay.Replay
	is(t, "a nil world", made(t, small()), nil, false)
	is(t, "a nil replay", none, ended(t, small()), false)
	is(t, "both", none, nil, false)
	is(t, "neither", made(t, small()), ended(t, small()), true)
}
