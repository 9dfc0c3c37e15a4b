package ghost_test

import (
	"slices"
	"testing"

	"dustpan/api"
	"dustpan/config"
	"dustpan/fair"
	"dustpan/ghost"
	"dustpan/guess"
	"dustpan/world"
)

// some is as many programs as a config has mutators, each of n operations by a rule.
func some(roll guess.Rule, c api.Config, n int) [][]api.Op {
	kinds := []int{api.Alloc, api.Load, api.Store, api.Store, api.Get, api.Set, api.Drop, api.Move}
	size := 1 + roll(4)
	l := make([][]api.Op, c.Muts)
	for id := range l {
		for range n {
			o := api.Op{Kind: kinds[roll(len(kinds))], A: roll(c.Regs), B: roll(c.Regs), C: roll(c.Regs)}
			switch o.Kind {
			case api.Alloc:
				if o.B = size; roll(10) == 0 {
					o.B = roll(16)
				}
			case api.Load:
				o.C = roll(size)
			case api.Store:
				o.B = roll(size)
			case api.Get:
				o.B = roll(c.Cells + 1)
			case api.Set:
				o.A = roll(c.Cells + 1)
			}
			l[id] = append(l[id], o)
		}
	}
	return l
}

// plainRoots is the chapter's words: what cells, registers and mutators have, each once, rising.
func plainRoots(w *world.World) []int {
	has := map[int]bool{}
	for i := range w.Config().Cells {
		v, _ := w.Shared().Heap.Cell(i)
		has[v] = true
	}
	for id := range w.Config().Muts {
		has[w.Mut(id).Held()] = true
		for _, v := range w.Mut(id).Regs() {
			has[v] = true
		}
	}
	return chosen(w, func(a int) bool { return has[a] })
}

// chosen is the addresses of a world for which something holds, rising.
func chosen(w *world.World, holds func(a int) bool) []int {
	var l []int
	for a := 1; a <= config.Words(w.Config()); a++ {
		if holds(a) {
			l = append(l, a)
		}
	}
	return l
}

// plainReach is what is reached: as long as a field of what is reached is an object that isn't, that is, too.
func plainReach(w *world.World) []int {
	h := w.Shared().Heap
	found := map[int]bool{}
	for _, a := range plainRoots(w) {
		found[a] = h.Is(a)
	}
	for grows := true; grows; {
		grows = false
		for _, a := range h.Objects() {
			n, _ := h.Fields(a)
			for field := range n {
				v, _ := h.Load(a, field)
				if found[a] && h.Is(v) && !found[v] {
					found[v], grows = true, true
				}
			}
		}
	}
	return chosen(w, func(a int) bool { return found[a] })
}

// plainSound is the first root, or else the first field of what is reached, that is no object.
func plainSound(w *world.World) ghost.Finding {
	h := w.Shared().Heap
	for _, a := range plainRoots(w) {
		if !h.Is(a) {
			return ghost.Finding{Kind: ghost.RootGone, At: a}
		}
	}
	for _, a := range plainReach(w) {
		n, _ := h.Fields(a)
		for field := range n {
			if v, _ := h.Load(a, field); v != 0 && !h.Is(v) {
				return ghost.Finding{Kind: ghost.FieldGone, At: a, What: field}
			}
		}
	}
	return ghost.Finding{}
}

// looks holds all that is told of a world against the chapter's words.
func looks(t *testing.T, w *world.World) {
	t.Helper()
	h, reach := w.Shared().Heap, plainReach(w)
	same(t, "Roots", ghost.Roots(w), plainRoots(w)...)
	same(t, "Reach", ghost.Reach(w), reach...)
	same(t, "Garbage", ghost.Garbage(w), chosen(w, func(a int) bool { return h.Is(a) && !slices.Contains(reach, a) })...)
	want := plainSound(w)
	if f, ok := ghost.Sound(w); f != want || ok != (want == ghost.Finding{}) {
		t.Fatalf("Sound: %v, %v; want %v", f, ok, want)
	}
	painted := true
	for _, a := range reach {
		color, _ := h.Color(a)
		painted = painted && color == w.Coll().Color()
	}
	if ghost.Painted(w) != painted {
		t.Fatal("Painted:", !painted)
	}
}

// watch is a world that is looked at by each pick.
type watch struct {
	*world.World
	seen    int   // so many events
	garbage []int // when the newest cycle began
	began   int   // the pick by which it did
	marked  int   // how often marking ended
	rested  int   // how often a cycle did
	freed   int   // how much of garbage was
}

// does does a pick, behind which all is sound; when marking ends, what is reached is painted, and when a cycle does, its garbage is freed.
func (w *watch) does(t *testing.T, who int) {
	t.Helper()
	picks(t, w.World, who)
	sound(t, w.World)
	l := w.Since(w.seen)
	w.seen += len(l)
	for _, e := range l {
		switch e.Kind {
		case api.Start:
			w.garbage, w.began = ghost.Garbage(w.World), e.Pick
		case api.Marked:
			w.marked++
			if !ghost.Painted(w.World) {
				t.Fatal("not painted, when marking ends, at the pick", e.Pick)
			}
		case api.Rested:
			w.rested++
			w.freed += len(w.garbage)
			same(t, "what is left of garbage", ghost.Left(w.garbage, w.Events(), w.began))
			if !ghost.Painted(w.World) {
				t.Fatal("not painted at rest, at the pick", e.Pick)
			}
		}
	}
}

// Of every script, fair or not, behind every pick a world is sound.
func TestScripts(t *testing.T) {
	var all watch
	for seed := range uint64(80) {
		roll := guess.By(seed)
		c := guess.Config(roll)
		w := &watch{World: made(t, c, some(roll, c, 300)...)}
		l := guess.Picks(roll, c, 1500)
		if roll(3) == 0 {
			raw := make([]uint16, len(l))
			for i := range raw {
				raw[i] = uint16(roll(1 << 16))
			}
			l = fair.Spread(raw, c.Muts+2, c.Muts+2+roll(20))
		}
		for i, who := range l {
			w.does(t, who)
			if i%16 == 0 {
				looks(t, w.World)
			}
		}
		all.marked, all.rested, all.freed = all.marked+w.marked, all.rested+w.rested, all.freed+w.freed
	}
	if all.marked < 100 || all.rested < 100 || all.freed < 200 {
		t.Error("too few came:", all.marked, all.rested, all.freed)
	}
}

// lays lays any words into cells and fields, some of which are no objects.
func lays(roll guess.Rule, w *world.World) {
	h := w.Shared().Heap
	anything := func() int {
		if l := h.Objects(); len(l) > 0 && roll(6) > 0 {
			return l[roll(len(l))]
		}
		return roll(config.Words(w.Config())+1) * roll(2)
	}
	for i := range w.Config().Cells {
		h.SetCell(i, anything())
	}
	for _, a := range h.Objects() {
		if n, _ := h.Fields(a); n > 0 && roll(2) == 0 {
			h.Store(a, roll(n), anything())
		}
	}
}

// The ghost tells what it finds of whatever cells and fields there are.
func TestWhateverIsLaid(t *testing.T) {
	kinds := map[int]int{}
	for seed := range uint64(400) {
		roll := guess.By(seed + 5000)
		c := guess.Config(roll)
		w := made(t, c, some(roll, c, 100)...)
		picks(t, w, guess.Picks(roll, c, 100+roll(500))...)
		for range 5 {
			lays(roll, w)
			looks(t, w)
			f, _ := ghost.Sound(w)
			kinds[f.Kind]++
		}
	}
	if kinds[0] < 50 || kinds[ghost.RootGone] < 100 || kinds[ghost.FieldGone] < 100 {
		t.Error("too few came:", kinds)
	}
}

// Looking at a world changes nothing.
func TestLooking(t *testing.T) {
	for seed := range uint64(20) {
		roll := guess.By(seed + 900)
		c := guess.Config(roll)
		programs := some(roll, c, 100)
		l := guess.Picks(roll, c, 1000)
		w, seen := made(t, c, programs...), made(t, c, programs...)
		picks(t, w, l...)
		for _, who := range l {
			picks(t, seen, who)
			ghost.Sound(seen)
			ghost.Painted(seen)
			ghost.Garbage(seen)
		}
		if !slices.Equal(w.Events(), seen.Events()) {
			t.Fatal("looking changes something")
		}
	}
}
