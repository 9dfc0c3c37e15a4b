package lists_test

import (
	"math"
	"slices"
	"testing"

	"dustpan/api"
	"dustpan/arena"
	"dustpan/block"
	"dustpan/header"
	"dustpan/lists"
)

// parts are lists, and what they are made of.
type parts struct {
	*lists.Lists
	arena *arena.Arena
	table *block.Table
}

// table is a table of so many blocks of so many words, of which the first ones are assigned to classes.
func table(t *testing.T, blocks, words int, classes ...int) *block.Table {
	t.Helper()
	b, e := block.New(api.Config{Blocks: blocks, Words: words, Muts: 1, Regs: 1, Log: 1, Stack: 1})
	if e != api.OK {
		t.Fatalf("block.New(%d, %d): %d", blocks, words, e)
	}
	for _, k := range classes {
		if _, e := b.Assign(k); e != api.OK {
			t.Fatalf("Assign(%d): %d", k, e)
		}
	}
	return b
}

// row is an arena of so many words.
func row(t *testing.T, words int) *arena.Arena {
	t.Helper()
	a, e := arena.New(words)
	if e != api.OK {
		t.Fatalf("arena.New(%d): %d", words, e)
	}
	return a
}

// made is lists that have none, over an arena and a table of such blocks.
func made(t *testing.T, blocks, words int, classes ...int) parts {
	t.Helper()
	a, b := row(t, blocks*words), table(t, blocks, words, classes...)
	l, e := lists.New(a, b)
	if e != api.OK || l == nil {
		t.Fatalf("New(%d, %d): %v, %d", blocks, words, l, e)
	}
	return parts{l, a, b}
}

// four is lists over one block of 20 words for each class, rising, and one that isn't assigned.
func four(t *testing.T) parts {
	t.Helper()
	return made(t, 5, 20, 0, 1, 2, 3)
}

// puts puts some slots, one by one.
func (p parts) puts(t *testing.T, slots ...int) {
	t.Helper()
	for _, at := range slots {
		if e := p.Put(at); e != api.OK {
			t.Fatalf("Put(%d): %d", at, e)
		}
	}
}

// takes takes a class's first slot, which is that one.
func (p parts) takes(t *testing.T, k, want int) {
	t.Helper()
	if at, e := p.Take(k); e != api.OK || at != want {
		t.Fatalf("Take(%d): %d, %d; want %d", k, at, e, want)
	}
}

// refuses puts what can't be put.
func (p parts) refuses(t *testing.T, at int, want api.Errno) {
	t.Helper()
	if e := p.Put(at); e != want {
		t.Errorf("Put(%d): %d; want %d", at, e, want)
	}
}

// takesNone takes where nothing can be taken.
func (p parts) takesNone(t *testing.T, k int, want api.Errno) {
	t.Helper()
	if at, e := p.Take(k); e != want || at != 0 {
		t.Errorf("Take(%d): %d, %d; want %d", k, at, e, want)
	}
}

// holds looks at all that lists tell, and at their links: those of these classes have these slots, the first one first, the others none.
func (p parts) holds(t *testing.T, want map[int][]int) {
	t.Helper()
	p.tells(t, want)
	for _, l := range want {
		p.threaded(t, l)
	}
}

// tells looks at all that lists tell, whatever the links are.
func (p parts) tells(t *testing.T, want map[int][]int) {
	t.Helper()
	for _, k := range append(noClasses(), 0, 1, 2, 3) {
		l, first := want[k], 0
		if len(l) > 0 {
			first = l[0]
		}
		if p.Len(k) != len(l) || p.First(k) != first {
			t.Errorf("of class %d: %d, the first one %d; want %v", k, p.Len(k), p.First(k), l)
		}
		if got := slices.Collect(p.All(k)); !slices.Equal(got, l) {
			t.Errorf("All(%d): %v; want %v", k, got, l)
		}
	}
	var all []int
	for _, l := range want {
		all = append(all, l...)
	}
	p.hasJust(t, all)
}

// threaded looks at the first words of a list's slots.
func (p parts) threaded(t *testing.T, l []int) {
	t.Helper()
	words := p.arena.Dump()
	for i, at := range l {
		next := 0
		if i+1 < len(l) {
			next = l[i+1]
		}
		if to, ok := header.Next(words[at-1]); !ok || to != next {
			t.Errorf("%d links to %d, %v; want %d", at, to, ok, next)
		}
	}
}

// hasJust asks of each address, and of what is none, whether it is in its list.
func (p parts) hasJust(t *testing.T, want []int) {
	t.Helper()
	for at := -2; at <= p.arena.Len()+70; at++ {
		if got := p.Has(at); got != slices.Contains(want, at) {
			t.Errorf("Has(%d): %v", at, got)
		}
	}
	for _, at := range []int{math.MinInt, 1<<20 + 1, 1<<32 + 1, math.MaxInt} {
		if p.Has(at) {
			t.Errorf("Has(%d)", at)
		}
	}
}

// noClasses are numbers that no class has.
func noClasses() []int {
	return []int{math.MinInt, -4, -1, 4, 5, 16, math.MaxInt}
}

func TestNewHasNone(t *testing.T) {
	four(t).holds(t, nil)
	made(t, 1, 16).holds(t, nil)
	made(t, 3, 17, 2).holds(t, nil)
}

func TestNewChangesNothing(t *testing.T) {
	a, b := row(t, 32), table(t, 2, 16, 1)
	a.Store(1, 77)
	a.Store(32, 78)
	if _, e := lists.New(a, b); e != api.OK {
		t.Fatal("New:", e)
	}
	if d := a.Dump(); d[0] != 77 || d[31] != 78 || a.Stores() != 2 {
		t.Error("New has laid words:", d)
	}
	if l := b.Unassigned(); !slices.Equal(l, []int{1}) {
		t.Error("New has assigned blocks:", l)
	}
}

func TestNewRefuses(t *testing.T) {
	for _, words := range []int{1, 16, 31, 33, 48, 1 << 20} {
		if l, e := lists.New(row(t, words), table(t, 2, 16)); l != nil || e != api.ErrArg {
			t.Errorf("New, of %d words in place of 32: %v, %d", words, l, e)
		}
	}
	if l, e := lists.New(nil, table(t, 2, 16)); l != nil || e != api.ErrArg {
		t.Error("New without an arena:", l, e)
	}
	if l, e := lists.New(row(t, 32), nil); l != nil || e != api.ErrArg {
		t.Error("New without a table:", l, e)
	}
	if l, e := lists.New(nil, nil); l != nil || e != api.ErrArg {
		t.Error("New without both:", l, e)
	}
}

func TestTheExample(t *testing.T) {
	p := made(t, 1, 16, 1)
	p.puts(t, 5, 13)
	if l := slices.Collect(p.All(1)); !slices.Equal(l, []int{13, 5}) {
		t.Error("All:", l)
	}
	w, _ := p.arena.Load(5)
	if to, ok := header.Next(w); !ok || to != 0 {
		t.Error("the first one that was put links to", to, ok)
	}
	p.holds(t, map[int][]int{1: {13, 5}})
}

func TestEachClassHasAListOfItsOwn(t *testing.T) {
	p := four(t)
	p.puts(t, 61, 41, 1, 21, 49, 3, 29, 19)
	p.holds(t, map[int][]int{0: {19, 3, 1}, 1: {29, 21}, 2: {49, 41}, 3: {61}})
}

func TestPutIsTheFirstOne(t *testing.T) {
	p := four(t)
	var l []int
	for _, at := range []int{25, 37, 21, 33, 29} { // all of the block, in no order
		p.puts(t, at)
		l = slices.Insert(l, 0, at)
		p.holds(t, map[int][]int{1: l})
	}
}

func TestPutOfNoSlot(t *testing.T) {
	p := four(t)
	p.puts(t, 1, 21)
	for _, at := range []int{
		math.MinInt, -1, 0, // no address
		2, 20, 22, 24, 42, 50, 62, // within a slot
		57, 60, 77, 80, // a block's last words
		81, 83, 97, 100, // a block that isn't assigned
		101, 121, 1<<20 + 1, 1<<32 + 1, math.MaxInt,
	} {
		p.refuses(t, at, api.ErrArg)
	}
	p.holds(t, map[int][]int{0: {1}, 1: {21}})
}

func TestPutOfWhatIsThere(t *testing.T) {
	p := four(t)
	p.puts(t, 1, 3, 5)
	was, stores := p.arena.Dump(), p.arena.Stores()
	for _, at := range []int{1, 3, 5} {
		p.refuses(t, at, api.ErrState)
	}
	if !slices.Equal(p.arena.Dump(), was) || p.arena.Stores() != stores {
		t.Error("a refused Put has laid words")
	}
	p.holds(t, map[int][]int{0: {5, 3, 1}})
	p.takes(t, 0, 5)
	p.refuses(t, 3, api.ErrState)
	p.puts(t, 5)
	p.holds(t, map[int][]int{0: {5, 3, 1}})
}

func TestPutLaysOneWord(t *testing.T) {
	p := made(t, 1, 16, 1)
	for at := 1; at <= 16; at++ {
		p.arena.Store(at, 5)
	}
	p.puts(t, 9, 1)
	for at, w := range p.arena.Dump() {
		if link := at+1 == 9 || at+1 == 1; !link && w != 5 {
			t.Errorf("the word at %d is %d", at+1, w)
		}
	}
	if n := p.arena.Stores(); n != 16+2 {
		t.Errorf("%d stores", n)
	}
}

func TestTakeIsTheFirstOne(t *testing.T) {
	p := four(t)
	p.puts(t, 1, 5, 3, 41, 49)
	p.takes(t, 0, 3)
	p.holds(t, map[int][]int{0: {5, 1}, 2: {49, 41}})
	p.takes(t, 2, 49)
	p.takes(t, 0, 5)
	p.holds(t, map[int][]int{0: {1}, 2: {41}})
	p.takes(t, 0, 1)
	p.takes(t, 2, 41)
	p.holds(t, nil)
	p.puts(t, 5, 3) // what was taken can be put again
	p.holds(t, map[int][]int{0: {3, 5}})
}

func TestTakeWithoutOne(t *testing.T) {
	p := four(t)
	p.puts(t, 1)
	for k := 1; k < 4; k++ {
		p.takesNone(t, k, api.ErrNone)
	}
	p.takes(t, 0, 1)
	p.takesNone(t, 0, api.ErrNone)
	p.takesNone(t, 0, api.ErrNone)
	p.holds(t, nil)
	p.puts(t, 1)
	p.holds(t, map[int][]int{0: {1}})
}

func TestTakeOfNoClass(t *testing.T) {
	p := four(t)
	for _, k := range noClasses() {
		p.takesNone(t, k, api.ErrArg)
	}
	p.puts(t, 1, 21, 41, 61)
	for _, k := range noClasses() {
		p.takesNone(t, k, api.ErrArg)
	}
	p.holds(t, map[int][]int{0: {1}, 1: {21}, 2: {41}, 3: {61}})
}

func TestTheFirstAddressAndTheLastOne(t *testing.T) {
	p := made(t, api.MaxBlocks, api.MaxWords)
	for range api.MaxBlocks {
		p.table.Assign(0)
	}
	p.puts(t, 1, 1<<20-1)
	if l := slices.Collect(p.All(0)); !slices.Equal(l, []int{1<<20 - 1, 1}) || !p.Has(1<<20-1) || p.Len(0) != 2 {
		t.Error("All:", l)
	}
	p.takes(t, 0, 1<<20-1)
	p.takes(t, 0, 1)
	p.takesNone(t, 0, api.ErrNone)
}

func TestBlocksThatAreAssignedLater(t *testing.T) {
	p := made(t, 3, 16)
	p.refuses(t, 1, api.ErrArg)
	p.table.Assign(3)
	p.puts(t, 1)
	p.refuses(t, 17, api.ErrArg)
	p.table.Assign(2)
	p.table.Assign(3)
	p.puts(t, 17, 25, 33)
	p.holds(t, map[int][]int{2: {25, 17}, 3: {33, 1}})
}

func TestAllIsAsItWasWhenRangedOver(t *testing.T) {
	p := four(t)
	p.puts(t, 1, 3, 5)
	all := p.All(0)
	p.puts(t, 7) // ahead of the ranging: it is told
	var told []int
	for at := range all {
		told = append(told, at)
		switch at {
		case 7:
			p.takes(t, 0, 7)
			p.takes(t, 0, 5)
			p.takes(t, 0, 3)
			p.puts(t, 9, 3)
		case 5:
			p.arena.Store(5, 0) // what is in hand has its own words
		}
	}
	if !slices.Equal(told, []int{7, 5, 3, 1}) {
		t.Errorf("told %v", told)
	}
	p.holds(t, map[int][]int{0: {3, 9, 1}})
	if l := slices.Collect(all); !slices.Equal(l, []int{3, 9, 1}) {
		t.Errorf("told once more: %v", l)
	}
}

func TestAllIsLeftAnywhere(t *testing.T) {
	p := four(t)
	p.puts(t, 21, 25, 29, 33)
	l := []int{33, 29, 25, 21}
	for n := range l {
		var told []int
		for at := range p.All(1) {
			told = append(told, at)
			if len(told) == n+1 {
				break
			}
		}
		if !slices.Equal(told, l[:n+1]) {
			t.Errorf("left after %d: %v", n+1, told)
		}
	}
	p.holds(t, map[int][]int{1: l})
}

// words are words that others may lay: links to slots of this list, to those of others, to what is none, and words that are no link.
func words(t *testing.T) []uint64 {
	t.Helper()
	object, ok := header.Object(0, 1)
	if !ok {
		t.Fatal("header.Object")
	}
	l := []uint64{0, 1, 3, object, math.MaxUint64}
	for _, to := range []int{0, 1, 3, 5, 2, 7, 21, 81, 100, 101, 1 << 20} {
		w, ok := header.Link(to)
		if !ok {
			t.Fatal("header.Link:", to)
		}
		l = append(l, w)
	}
	return l
}

// TestWhateverOthersLay has somebody else lay a word into a slot that is in its list: the list is still the one that was put.
func TestWhateverOthersLay(t *testing.T) {
	for _, w := range words(t) {
		for _, at := range []int{1, 3, 5} {
			p := four(t)
			p.puts(t, 1, 3, 5, 21)
			p.arena.Store(at, w)
			p.tells(t, map[int][]int{0: {5, 3, 1}, 1: {21}})
			for _, l := range [][]int{{5, 3, 1}, {3, 1}, {1}} {
				p.takes(t, 0, l[0])
				p.tells(t, map[int][]int{0: l[1:], 1: {21}})
			}
			p.takesNone(t, 0, api.ErrNone)
			p.puts(t, 3, 5)
			p.holds(t, map[int][]int{0: {5, 3}, 1: {21}})
		}
	}
}

func TestALinkToItself(t *testing.T) {
	p := made(t, 1, 16, 0)
	p.puts(t, 1)
	w, _ := header.Link(1)
	p.arena.Store(1, w)
	p.tells(t, map[int][]int{0: {1}})
	p.takes(t, 0, 1)
	p.tells(t, nil)
	p.takesNone(t, 0, api.ErrNone)
}

func TestTwoListsOverOneArena(t *testing.T) {
	a, b := row(t, 16), table(t, 1, 16, 0)
	var both []parts
	for range 2 {
		l, e := lists.New(a, b)
		if e != api.OK {
			t.Fatal("New:", e)
		}
		both = append(both, parts{l, a, b})
	}
	x, y := both[0], both[1]
	x.puts(t, 1)
	y.puts(t, 3)
	x.puts(t, 3)
	y.puts(t, 1)
	x.tells(t, map[int][]int{0: {3, 1}})
	x.takes(t, 0, 3)
	x.tells(t, map[int][]int{0: {1}})
	x.takes(t, 0, 1)
	x.tells(t, nil)
	y.tells(t, map[int][]int{0: {1, 3}})
	y.takes(t, 0, 1)
	y.takes(t, 0, 3)
	x.tells(t, nil)
	y.tells(t, nil)
}

func TestListsShareNothing(t *testing.T) {
	p, q := four(t), four(t)
	p.puts(t, 1, 3, 21)
	q.holds(t, nil)
	q.puts(t, 3, 61)
	p.holds(t, map[int][]int{0: {3, 1}, 1: {21}})
	q.holds(t, map[int][]int{0: {3}, 3: {61}})
}

func TestNilLists(t *testing.T) {
	var l *lists.Lists
	for _, n := range []int{math.MinInt, -1, 0, 1, 2, 3, 4, 16, 1 << 20, math.MaxInt} {
		if e := l.Put(n); e != api.ErrState {
			t.Errorf("Put(%d): %d", n, e)
		}
		if at, e := l.Take(n); e != api.ErrState || at != 0 {
			t.Errorf("Take(%d): %d, %d", n, at, e)
		}
		if l.Has(n) || l.Len(n) != 0 || l.First(n) != 0 {
			t.Errorf("nil lists have %d: %v, %d, %d", n, l.Has(n), l.Len(n), l.First(n))
		}
		for at := range l.All(n) {
			t.Errorf("All(%d): %d", n, at)
		}
	}
}

// TestAgainstRows puts and takes by a fixed rule, and holds the lists against rows of slots.
func TestAgainstRows(t *testing.T) {
	p := made(t, 6, 21, 0, 3, 1, 2, 0)
	p.againstRows(t, p.holds, func(int) {})
}

// TestAgainstRowsWhateverOthersLay does so, while somebody else lays words anywhere.
func TestAgainstRowsWhateverOthersLay(t *testing.T) {
	p := made(t, 6, 21, 0, 3, 1, 2, 0)
	l := words(t)
	p.againstRows(t, p.tells, func(n int) {
		p.arena.Store(n/7%(6*21)+1, l[n%len(l)])
	})
}

// againstRows puts and takes by a fixed rule, while something else is done, and holds the lists against rows of slots.
func (p parts) againstRows(t *testing.T, holds func(*testing.T, map[int][]int), meanwhile func(n int)) {
	t.Helper()
	want := map[int][]int{}
	x := uint64(1)
	for range 2000 {
		x = x*6364136223846793005 + 1442695040888963407
		n := int(x >> 33)
		if n%3 == 0 {
			againstTake(t, p, want, n/3%4)
		} else {
			againstPut(t, p, want, n/3%(6*21+2))
		}
		meanwhile(n)
		if n%97 == 0 {
			holds(t, want)
		}
	}
	holds(t, want)
}

// againstPut puts at an address, and into a row likewise.
func againstPut(t *testing.T, p parts, want map[int][]int, at int) {
	t.Helper()
	_, k, slot := p.table.Owner(at)
	switch {
	case !slot:
		p.refuses(t, at, api.ErrArg)
	case slices.Contains(want[k], at):
		p.refuses(t, at, api.ErrState)
	default:
		p.puts(t, at)
		want[k] = slices.Insert(want[k], 0, at)
	}
}

// againstTake takes of a class, and of a row likewise.
func againstTake(t *testing.T, p parts, want map[int][]int, k int) {
	t.Helper()
	if len(want[k]) == 0 {
		p.takesNone(t, k, api.ErrNone)
		return
	}
	p.takes(t, k, want[k][0])
	want[k] = slices.Delete(want[k], 0, 1)
}
