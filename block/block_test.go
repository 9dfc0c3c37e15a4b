package block_test

import (
	"math"
	"slices"
	"testing"

	"dustpan/api"
	"dustpan/block"
)

// sized is a config of so many blocks of so many words.
func sized(blocks, words int) api.Config {
	return numbers([7]int{blocks, words, 1, 1, 0, 1, 1})
}

// numbers is a config of these numbers, in the order of its fields.
func numbers(n [7]int) api.Config {
	return api.Config{Blocks: n[0], Words: n[1], Muts: n[2], Regs: n[3], Cells: n[4], Log: n[5], Stack: n[6]}
}

// made is a table of so many blocks of so many words, of which the first ones are assigned to classes.
func made(t *testing.T, blocks, words int, classes ...int) *block.Table {
	t.Helper()
	b, e := block.New(sized(blocks, words))
	if e != api.OK || b == nil {
		t.Fatalf("New(%d, %d): %v, %d", blocks, words, b, e)
	}
	for i, k := range classes {
		assigns(t, b, k, i)
	}
	return b
}

// assigns assigns a class, which gets that block.
func assigns(t *testing.T, b *block.Table, k, want int) {
	t.Helper()
	if got, e := b.Assign(k); e != api.OK || got != want {
		t.Fatalf("Assign(%d): %d, %d; want %d", k, got, e, want)
	}
}

// refuses assigns a class that gets none.
func refuses(t *testing.T, b *block.Table, k int, want api.Errno) {
	t.Helper()
	if got, e := b.Assign(k); e != want || got != 0 {
		t.Errorf("Assign(%d): %d, %d; want %d", k, got, e, want)
	}
}

// upTo are the numbers from one to another, that one not with it.
func upTo(from, to int) []int {
	var l []int
	for n := from; n < to; n++ {
		l = append(l, n)
	}
	return l
}

// slots are the addresses of a block's slots, by the sizes that the document writes.
func slots(words, k, b int) []int {
	size := []int{2, 4, 8, 16}[k]
	var l []int
	for word := 0; word+size <= words; word += size {
		l = append(l, b*words+word+1)
	}
	return l
}

// noBlocks are numbers that no table of so many blocks has.
func noBlocks(blocks int) []int {
	return []int{math.MinInt, -blocks, -1, blocks, blocks + 1, api.MaxBlocks, math.MaxInt}
}

// noClasses are numbers that no class has.
func noClasses() []int {
	return []int{math.MinInt, -4, -1, 4, 5, 16, math.MaxInt}
}

// holds looks at all that a table tells: the first blocks have these classes, the others none.
func holds(t *testing.T, b *block.Table, classes ...int) {
	t.Helper()
	c := b.Config()
	owners := map[int][2]int{}
	var all []int
	for i, k := range classes {
		if got, ok := b.Class(i); !ok || got != k {
			t.Errorf("Class(%d): %d, %v; want %d", i, got, ok, k)
		}
		of := slots(c.Words, k, i)
		if got := b.Slots(i); !slices.Equal(got, of) {
			t.Errorf("Slots(%d): %v; want %v", i, got, of)
		}
		for _, a := range of {
			owners[a] = [2]int{i, k}
		}
		all = append(all, of...)
	}
	for _, i := range append(upTo(len(classes), c.Blocks), noBlocks(c.Blocks)...) {
		hasNone(t, b, i)
	}
	if got := slices.Collect(b.All()); !slices.Equal(got, all) {
		t.Errorf("All: %v; want %v", got, all)
	}
	if got, want := b.Unassigned(), upTo(len(classes), c.Blocks); !slices.Equal(got, want) {
		t.Errorf("Unassigned: %v; want %v", got, want)
	}
	holdsOf(t, b, classes)
	holdsOwners(t, b, owners)
}

// hasNone looks at a block that isn't assigned.
func hasNone(t *testing.T, b *block.Table, i int) {
	t.Helper()
	if k, ok := b.Class(i); ok || k != 0 {
		t.Errorf("Class(%d): %d, %v", i, k, ok)
	}
	if l := b.Slots(i); len(l) != 0 {
		t.Errorf("Slots(%d): %v", i, l)
	}
}

// holdsOf looks at the blocks of each class, and of what is none.
func holdsOf(t *testing.T, b *block.Table, classes []int) {
	t.Helper()
	want := map[int][]int{}
	for i, k := range classes {
		want[k] = append(want[k], i)
	}
	for _, k := range append(noClasses(), 0, 1, 2, 3) {
		if got := b.Of(k); !slices.Equal(got, want[k]) {
			t.Errorf("Of(%d): %v; want %v", k, got, want[k])
		}
	}
}

// holdsOwners asks for the owner of each address, and of what is none.
func holdsOwners(t *testing.T, b *block.Table, owners map[int][2]int) {
	t.Helper()
	words := b.Config().Blocks * b.Config().Words
	for _, a := range append(upTo(-2, words+3), math.MinInt, 1<<20+1, 1<<32+1, math.MaxInt) {
		i, k, ok := b.Owner(a)
		if want, is := owners[a]; ok != is || [2]int{i, k} != want {
			t.Errorf("Owner(%d): %d, %d, %v; want %v, %v", a, i, k, ok, want, is)
		}
	}
}

func TestNewHasNoneAssigned(t *testing.T) {
	for _, blocks := range []int{1, 2, 3, 20} {
		for _, words := range []int{16, 17, 31, 256} {
			holds(t, made(t, blocks, words))
		}
	}
}

func TestNewKeepsItsConfig(t *testing.T) {
	for _, n := range [][7]int{
		{1, 16, 1, 1, 0, 1, 1},
		{2, 20, 3, 4, 5, 6, 7},
		{4096, 256, 8, 64, 64, 256, 4096},
	} {
		c := numbers(n)
		b, e := block.New(c)
		if e != api.OK || b.Config() != c {
			t.Errorf("New(%v): %d", c, e)
			continue
		}
		b.Assign(1)
		if b.Config() != c {
			t.Errorf("of %v, after Assign: %v", c, b.Config())
		}
	}
}

func TestNewRefuses(t *testing.T) {
	for _, n := range [][7]int{
		{},
		{0, 16, 1, 1, 0, 1, 1},
		{-1, 16, 1, 1, 0, 1, 1},
		{4097, 16, 1, 1, 0, 1, 1},
		{2, 15, 1, 1, 0, 1, 1},
		{2, 257, 1, 1, 0, 1, 1},
		{2, math.MinInt, 1, 1, 0, 1, 1},
		{2, 16, 0, 1, 0, 1, 1},
		{2, 16, 9, 1, 0, 1, 1},
		{2, 16, 1, 0, 0, 1, 1},
		{2, 16, 1, 65, 0, 1, 1},
		{2, 16, 1, 1, -1, 1, 1},
		{2, 16, 1, 1, 65, 1, 1},
		{2, 16, 1, 1, 0, 0, 1},
		{2, 16, 1, 1, 0, 257, 1},
		{2, 16, 1, 1, 0, 1, 0},
		{2, 16, 1, 1, 0, 1, 4097},
		{2, 16, 1, 1, 0, 1, math.MaxInt},
		{math.MaxInt, math.MaxInt, 1, 1, 0, 1, 1},
	} {
		if b, e := block.New(numbers(n)); b != nil || e != api.ErrArg {
			t.Errorf("New(%v): %v, %d", n, b, e)
		}
	}
}

func TestTheExample(t *testing.T) {
	b := made(t, 2, 16)
	assigns(t, b, 1, 0)
	assigns(t, b, 1, 1)
	refuses(t, b, 0, api.ErrMemory)
	holds(t, b, 1, 1)
}

func TestAssignGivesTheLeastOne(t *testing.T) {
	classes := []int{2, 0, 3, 1, 1, 0, 2, 3, 3}
	b := made(t, len(classes), 37)
	for i, k := range classes {
		assigns(t, b, k, i)
		holds(t, b, classes[:i+1]...)
	}
	for k := range 4 {
		refuses(t, b, k, api.ErrMemory)
	}
	holds(t, b, classes...)
}

func TestAssignOfNoClass(t *testing.T) {
	b := made(t, 2, 16, 3)
	for _, k := range noClasses() {
		refuses(t, b, k, api.ErrArg)
	}
	holds(t, b, 3)
	assigns(t, b, 0, 1)
	// Named ahead of what else is wrong: that no block is left.
	for _, k := range noClasses() {
		refuses(t, b, k, api.ErrArg)
	}
	holds(t, b, 3, 0)
}

func TestSlotsInNumbers(t *testing.T) {
	b := made(t, 4, 20, 2, 0, 3)
	for i, want := range [][]int{{1, 9}, {21, 23, 25, 27, 29, 31, 33, 35, 37, 39}, {41}, nil} {
		if l := b.Slots(i); !slices.Equal(l, want) {
			t.Errorf("Slots(%d): %v; want %v", i, l, want)
		}
	}
	want := []int{1, 9, 21, 23, 25, 27, 29, 31, 33, 35, 37, 39, 41}
	if l := slices.Collect(b.All()); !slices.Equal(l, want) {
		t.Errorf("All: %v; want %v", l, want)
	}
}

func TestOwnerInNumbers(t *testing.T) {
	b := made(t, 4, 20, 2, 0, 3)
	for a, want := range map[int][2]int{1: {0, 2}, 9: {0, 2}, 21: {1, 0}, 39: {1, 0}, 41: {2, 3}} {
		if i, k, ok := b.Owner(a); !ok || [2]int{i, k} != want {
			t.Errorf("Owner(%d): %d, %d, %v; want %v", a, i, k, ok, want)
		}
	}
	// Words within a slot, a block's last words that are no slot's, a block that isn't assigned, no address.
	for _, a := range []int{2, 8, 16, 17, 20, 22, 40, 42, 56, 57, 60, 61, 80, 81, 0, -1} {
		if i, k, ok := b.Owner(a); ok || i != 0 || k != 0 {
			t.Errorf("Owner(%d): %d, %d, %v", a, i, k, ok)
		}
	}
}

func TestTheGreatestTable(t *testing.T) {
	b := made(t, api.MaxBlocks, api.MaxWords)
	for i := range api.MaxBlocks {
		assigns(t, b, i%4, i)
	}
	refuses(t, b, 0, api.ErrMemory)
	if i, k, ok := b.Owner(1<<20 - 15); !ok || i != 4095 || k != 3 {
		t.Errorf("Owner of the last slot: %d, %d, %v", i, k, ok)
	}
	last, count := 0, 0
	for a := range b.All() {
		if a <= last {
			t.Fatalf("All: %d behind %d", a, last)
		}
		last = a
		count++
	}
	if last != 1<<20-15 || count != 1024*(128+64+32+16) {
		t.Errorf("All: %d in all, %d at last", count, last)
	}
	if l := b.Of(3); len(l) != 1024 || l[0] != 3 || l[1023] != 4095 {
		t.Errorf("Of(3): %d in all", len(l))
	}
	if l := b.Unassigned(); len(l) != 0 {
		t.Errorf("Unassigned: %v", l)
	}
}

func TestAllIsLeftAnywhere(t *testing.T) {
	b := made(t, 4, 20, 2, 0, 3)
	all := slices.Collect(b.All())
	for n := range all {
		var told []int
		for a := range b.All() {
			told = append(told, a)
			if len(told) == n+1 {
				break
			}
		}
		if !slices.Equal(told, all[:n+1]) {
			t.Errorf("left after %d: %v", n+1, told)
		}
	}
	holds(t, b, 2, 0, 3)
}

func TestAllIsToldMoreThanOnce(t *testing.T) {
	b := made(t, 3, 16, 2)
	all := b.All()
	for range 2 {
		if l := slices.Collect(all); !slices.Equal(l, []int{1, 9}) {
			t.Errorf("All: %v", l)
		}
	}
}

func TestAssignWhileAllIsToldEnds(t *testing.T) {
	b := made(t, 3, 16, 2)
	var told []int
	for a := range b.All() {
		told = append(told, a)
		b.Assign(3)
	}
	if !slices.Equal(told, []int{1, 9}) {
		t.Errorf("told %v", told)
	}
	holds(t, b, 2, 3, 3)
}

func TestAnswersAreNewMemory(t *testing.T) {
	b := made(t, 5, 16, 1, 0, 1)
	for name, tell := range map[string]func() []int{
		"Unassigned": b.Unassigned,
		"Of":         func() []int { return b.Of(1) },
		"Slots":      func() []int { return b.Slots(2) },
	} {
		one, other := tell(), tell()
		was := slices.Clone(other)
		clear(one[:cap(one)])
		if !slices.Equal(other, was) {
			t.Errorf("%s: one answer changes the other: %v; was %v", name, other, was)
		}
		holds(t, b, 1, 0, 1)
	}
	unassigned := b.Unassigned()
	b.Assign(3)
	if !slices.Equal(unassigned, []int{3, 4}) {
		t.Errorf("Assign changes what Unassigned told: %v", unassigned)
	}
}

func TestCopyIsTheSameAndSharesNothing(t *testing.T) {
	for assigned := range 5 { // whatever spare room its memory has
		classes := []int{2, 0, 3, 1}[:assigned]
		b := made(t, 6, 16, classes...)
		c := b.Copy()
		if c == nil || c == b || c.Config() != b.Config() {
			t.Fatal("Copy:", c)
		}
		holds(t, c, classes...)
		assigns(t, b, 1, assigned)
		holds(t, c, classes...)
		assigns(t, c, 2, assigned)
		assigns(t, c, 2, assigned+1)
		holds(t, b, append(slices.Clone(classes), 1)...)
		holds(t, c, append(slices.Clone(classes), 2, 2)...)
	}
}

func TestTablesShareNothing(t *testing.T) {
	a, b := made(t, 2, 16), made(t, 2, 16)
	assigns(t, a, 3, 0)
	holds(t, b)
	assigns(t, b, 1, 0)
	holds(t, a, 3)
}

func TestNilTable(t *testing.T) {
	var b *block.Table
	if b.Config() != (api.Config{}) || b.Copy() != nil || len(b.Unassigned()) != 0 {
		t.Error("a nil table has something")
	}
	for _, n := range append(upTo(-1, 6), math.MinInt, math.MaxInt) {
		refuses(t, b, n, api.ErrState)
		hasNone(t, b, n)
		if l := b.Of(n); len(l) != 0 {
			t.Errorf("Of(%d): %v", n, l)
		}
		if i, k, ok := b.Owner(n); ok || i != 0 || k != 0 {
			t.Errorf("Owner(%d): %d, %d, %v", n, i, k, ok)
		}
	}
	for a := range b.All() {
		t.Error("All:", a)
	}
}

// TestAgainstARow assigns by a fixed rule, and holds tables of many sizes against a row of classes.
func TestAgainstARow(t *testing.T) {
	for words := 16; words <= 64; words++ {
		b := made(t, 7, words)
		var classes []int
		x := uint64(words)
		for range 40 {
			x = x*6364136223846793005 + 1442695040888963407
			k := int(x>>33)%7 - 1
			switch {
			case k < 0 || k > 3:
				refuses(t, b, k, api.ErrArg)
			case len(classes) == 7:
				refuses(t, b, k, api.ErrMemory)
			default:
				assigns(t, b, k, len(classes))
				classes = append(classes, k)
			}
		}
		holds(t, b, classes...)
		holds(t, b.Copy(), classes...)
	}
}
