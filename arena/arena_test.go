package arena_test

import (
	"math"
	"slices"
	"testing"

	"dustpan/api"
	"dustpan/arena"
)

// most is how many words there are at most, as the document writes it.
const most = 1 << 20

// made is an arena that has some words, laid by as many stores.
func made(t *testing.T, words ...uint64) *arena.Arena {
	t.Helper()
	a := fresh(t, len(words))
	for i, w := range words {
		if e := a.Store(i+1, w); e != api.OK {
			t.Fatalf("Store(%d, %d): %d", i+1, w, e)
		}
	}
	return a
}

// fresh is an arena of so many words.
func fresh(t *testing.T, words int) *arena.Arena {
	t.Helper()
	a, e := arena.New(words)
	if e != api.OK || a == nil {
		t.Fatalf("New(%d): %v, %d", words, a, e)
	}
	return a
}

// holds looks at all that an arena tells without a load.
func holds(t *testing.T, a *arena.Arena, loads, stores int, words ...uint64) {
	t.Helper()
	if a.Len() != len(words) || a.Loads() != loads || a.Stores() != stores {
		t.Errorf("length %d, %d loads, %d stores; want %d, %d, %d", a.Len(), a.Loads(), a.Stores(), len(words), loads, stores)
	}
	if got := a.Dump(); !slices.Equal(got, words) {
		t.Errorf("words %v; want %v", got, words)
	}
}

// noAddresses are numbers at which an arena of so many words has none, but 0.
func noAddresses(words int) []int {
	return []int{math.MinInt, -words, -2, -1, words + 1, words + 2, 2*words + 1, most + 1, 1 << 32, math.MaxInt}
}

func TestNewIsAllZero(t *testing.T) {
	for _, words := range []int{1, 2, 4, 63, 64, 65, 1000} {
		a := fresh(t, words)
		holds(t, a, 0, 0, make([]uint64, words)...)
		for at := 1; at <= words; at++ {
			if w, e := a.Load(at); e != api.OK || w != 0 {
				t.Fatalf("of %d: Load(%d): %d, %d", words, at, w, e)
			}
		}
		holds(t, a, words, 0, make([]uint64, words)...)
	}
}

func TestTheGreatestOne(t *testing.T) {
	a := fresh(t, most)
	if e := a.Store(most, 5); e != api.OK {
		t.Error("Store at the last address:", e)
	}
	if w, e := a.Load(most); e != api.OK || w != 5 {
		t.Error("Load of the last address:", w, e)
	}
	if _, e := a.Load(most + 1); e != api.ErrRange {
		t.Error("Load behind the last address:", e)
	}
	if d := a.Dump(); a.Len() != most || len(d) != most || d[most-1] != 5 || d[most-2] != 0 {
		t.Error("length", a.Len(), len(d))
	}
}

func TestNewRefuses(t *testing.T) {
	for _, words := range []int{math.MinInt, -most, -1, 0, most + 1, 2 * most, math.MaxInt} {
		if a, e := arena.New(words); a != nil || e != api.ErrRange {
			t.Errorf("New(%d): %v, %d", words, a, e)
		}
	}
}

func TestWordsStayWhereTheyAreLaid(t *testing.T) {
	words := []uint64{math.MaxUint64, 0, 1, 1 << 63, 42}
	a := made(t, words...)
	holds(t, a, 0, 5, words...)
	for range 2 { // a load takes nothing away
		for i, want := range words {
			if w, e := a.Load(i + 1); e != api.OK || w != want {
				t.Errorf("Load(%d): %d, %d; want %d", i+1, w, e, want)
			}
		}
	}
	holds(t, a, 10, 5, words...)
	a.Store(3, 7)
	holds(t, a, 10, 6, math.MaxUint64, 0, 7, 1<<63, 42)
	a.Store(3, 7) // a store of what is there is one, too
	a.Store(1, 0)
	holds(t, a, 10, 8, 0, 0, 7, 1<<63, 42)
}

func TestNoAddress(t *testing.T) {
	a := made(t, 1, 2, 3, 4)
	refused := func(at int, want api.Errno) {
		if w, e := a.Load(at); e != want || w != 0 {
			t.Errorf("Load(%d): %d, %d; want %d", at, w, e, want)
		}
		for _, w := range []uint64{0, 9} {
			if e := a.Store(at, w); e != want {
				t.Errorf("Store(%d, %d): %d; want %d", at, w, e, want)
			}
		}
	}
	refused(0, api.ErrNil)
	for _, at := range noAddresses(4) {
		refused(at, api.ErrRange)
	}
	holds(t, a, 0, 4, 1, 2, 3, 4)
}

func TestNothingElseCounts(t *testing.T) {
	a := made(t, 8, 9)
	a.Load(2)
	for range 3 {
		a.Len()
		a.Loads()
		a.Stores()
		a.Dump()
		a.Copy()
	}
	holds(t, a, 1, 2, 8, 9)
}

func TestDumpIsNewMemory(t *testing.T) {
	a := made(t, 1, 2, 3)
	one, other := a.Dump(), a.Dump()
	clear(one[:cap(one)])
	if !slices.Equal(other, []uint64{1, 2, 3}) {
		t.Error("one dump changes the other:", other)
	}
	holds(t, a, 0, 3, 1, 2, 3)
	a.Store(2, 9)
	if !slices.Equal(other, []uint64{1, 2, 3}) {
		t.Error("a store changes a dump:", other)
	}
}

func TestCopyIsTheSame(t *testing.T) {
	a := made(t, 1, 2, 3)
	a.Load(1)
	a.Load(9)
	c := a.Copy()
	if c == nil || c == a {
		t.Fatal("Copy:", c)
	}
	holds(t, c, 1, 3, 1, 2, 3)
	holds(t, a, 1, 3, 1, 2, 3)
	if w, e := c.Load(3); e != api.OK || w != 3 {
		t.Error("Load of the copy:", w, e)
	}
	if _, e := c.Load(4); e != api.ErrRange {
		t.Error("Load behind the copy:", e)
	}
}

func TestCopySharesNothing(t *testing.T) {
	a := made(t, 1, 2, 3)
	c := a.Copy()
	a.Store(1, 7)
	a.Load(1)
	holds(t, a, 1, 4, 7, 2, 3)
	holds(t, c, 0, 3, 1, 2, 3)
	c.Store(2, 8)
	c.Store(3, 9)
	c.Load(1)
	c.Load(2)
	holds(t, c, 2, 5, 1, 8, 9)
	holds(t, a, 1, 4, 7, 2, 3)
}

func TestArenasShareNothing(t *testing.T) {
	a, b := made(t, 1, 2), fresh(t, 2)
	holds(t, b, 0, 0, 0, 0)
	b.Store(1, 5)
	b.Load(2)
	holds(t, a, 0, 2, 1, 2)
	holds(t, b, 1, 1, 5, 0)
}

func TestNilArena(t *testing.T) {
	var a *arena.Arena
	if a.Len() != 0 || a.Loads() != 0 || a.Stores() != 0 || len(a.Dump()) != 0 || a.Copy() != nil {
		t.Error("a nil arena has something")
	}
	for _, at := range []int{math.MinInt, -1, 0, 1, most, most + 1, math.MaxInt} {
		if w, e := a.Load(at); e != api.ErrState || w != 0 {
			t.Errorf("Load(%d): %d, %d", at, w, e)
		}
		if e := a.Store(at, 1); e != api.ErrState {
			t.Errorf("Store(%d): %d", at, e)
		}
	}
}

// TestAgainstARow does many loads and stores, by a fixed rule, and holds the arena against words and counts of its own.
func TestAgainstARow(t *testing.T) {
	for _, words := range []int{1, 5, 64, 100} {
		a, row := fresh(t, words), make([]uint64, words)
		loads, stores := 0, 0
		x := uint64(words)
		for range 3000 {
			x = x*6364136223846793005 + 1442695040888963407
			at := int(x>>33)%(words+4) - 1
			code := api.OK
			switch {
			case at == 0:
				code = api.ErrNil
			case at < 0 || at > words:
				code = api.ErrRange
			}
			if x>>32&1 == 0 {
				if e := a.Store(at, x); e != code {
					t.Fatalf("of %d: Store(%d): %d", words, at, e)
				}
				if code == api.OK {
					row[at-1] = x
					stores++
				}
				continue
			}
			want := uint64(0)
			if code == api.OK {
				want = row[at-1]
				loads++
			}
			if w, e := a.Load(at); e != code || w != want {
				t.Fatalf("of %d: Load(%d): %d, %d; want %d, %d", words, at, w, e, want, code)
			}
		}
		holds(t, a, loads, stores, row...)
		holds(t, a.Copy(), loads, stores, row...)
	}
}
