package bits_test

import (
	"math"
	"slices"
	"testing"

	"dustpan/api"
	"dustpan/bits"
)

const most = 1 << 21

// made is a set of a size that has some numbers.
func made(t *testing.T, size int, l ...int) *bits.Set {
	t.Helper()
	s, e := bits.New(size)
	if e != api.OK || s == nil {
		t.Fatalf("New(%d): %v, %d", size, s, e)
	}
	for _, n := range l {
		if !s.Put(n, true) {
			t.Fatalf("Put(%d, true) of size %d changed nothing", n, size)
		}
	}
	return s
}

// holds looks at all that a set tells, against the numbers that it should have.
func holds(t *testing.T, s *bits.Set, size int, want []int) {
	t.Helper()
	if s.Size() != size || s.Count() != len(want) {
		t.Fatalf("size %d, count %d; want %d, %d", s.Size(), s.Count(), size, len(want))
	}
	if got := slices.Collect(s.All()); !slices.Equal(got, want) {
		t.Fatalf("All: %v; want %v", got, want)
	}
	i := 0
	for n := -1; n <= size+1; n++ {
		for i < len(want) && want[i] < n {
			i++
		}
		at, ok := s.Next(n)
		if i == len(want) && (ok || at != 0) {
			t.Fatalf("Next(%d): %d, %v; want none", n, at, ok)
		}
		if i < len(want) && (!ok || at != want[i]) {
			t.Fatalf("Next(%d): %d, %v; want %d", n, at, ok, want[i])
		}
		if has := i < len(want) && want[i] == n; s.Has(n) != has {
			t.Fatalf("Has(%d): %v", n, !has)
		}
	}
}

func TestNewHasNone(t *testing.T) {
	for _, size := range []int{0, 1, 2, 63, 64, 65, 127, 128, 129, 1000} {
		holds(t, made(t, size), size, nil)
	}
	s := made(t, most)
	if s.Size() != most || s.Count() != 0 {
		t.Error("the greatest size:", s.Size(), s.Count())
	}
}

func TestNewRefusesSizes(t *testing.T) {
	for _, size := range []int{-1, -64, math.MinInt, most + 1, most * 2, math.MaxInt} {
		if s, e := bits.New(size); s != nil || e != api.ErrRange {
			t.Errorf("New(%d): %v, %d; want nil, ErrRange", size, s, e)
		}
	}
}

func TestPutTellsWhetherItChanged(t *testing.T) {
	s := made(t, 130)
	for _, n := range []int{0, 1, 62, 63, 64, 65, 127, 128, 129} {
		for _, step := range []struct{ in, changed bool }{{false, false}, {true, true}, {true, false}, {false, true}, {false, false}, {true, true}} {
			if got := s.Put(n, step.in); got != step.changed || s.Has(n) != step.in {
				t.Errorf("Put(%d, %v): %v, then Has: %v", n, step.in, got, s.Has(n))
			}
		}
	}
	holds(t, s, 130, []int{0, 1, 62, 63, 64, 65, 127, 128, 129})
}

func TestNumbersThatCannotBe(t *testing.T) {
	for _, size := range []int{0, 1, 64, 100} {
		s := made(t, size)
		s.Fill(true)
		for _, n := range []int{-1, -64, -65, math.MinInt, size, size + 1, size + 64, math.MaxInt} {
			if s.Put(n, true) || s.Put(n, false) || s.Has(n) {
				t.Errorf("size %d takes %d", size, n)
			}
		}
		if s.Count() != size {
			t.Errorf("size %d: they changed it: %d", size, s.Count())
		}
	}
}

func TestNextOfAnyNumber(t *testing.T) {
	s := made(t, 100, 3, 70)
	for _, c := range []struct{ from, at int }{{math.MinInt, 3}, {-65, 3}, {-1, 3}, {0, 3}, {3, 3}, {4, 70}, {63, 70}, {64, 70}, {70, 70}} {
		if at, ok := s.Next(c.from); !ok || at != c.at {
			t.Errorf("Next(%d): %d, %v; want %d", c.from, at, ok, c.at)
		}
	}
	for _, n := range []int{71, 99, 100, 101, 128, 1 << 30, math.MaxInt} {
		if at, ok := s.Next(n); ok || at != 0 {
			t.Errorf("Next(%d): %d, %v; want none", n, at, ok)
		}
	}
}

func TestNextAcrossManyWords(t *testing.T) {
	s := made(t, most, 0, most-1)
	if at, ok := s.Next(1); !ok || at != most-1 {
		t.Error("Next(1):", at, ok)
	}
	if got := slices.Collect(s.All()); !slices.Equal(got, []int{0, most - 1}) {
		t.Error("All:", got)
	}
}

func TestAllIsAsItWasWhenRanged(t *testing.T) {
	s := made(t, 200, 5, 64, 199)
	all := s.All()
	s.Put(6, true) // ahead of the ranging, so it is told
	var got []int
	for n := range all {
		got = append(got, n)
		s.Fill(false)
		s.Put(n+1, n < 199)
		s.Put(150, true)
	}
	if !slices.Equal(got, []int{5, 6, 64, 199}) {
		t.Error("what was put in the midst is told:", got)
	}
	if got := slices.Collect(all); !slices.Equal(got, []int{150}) {
		t.Error("ranged over once more:", got)
	}
}

func TestAllIsLeftAnywhere(t *testing.T) {
	s := made(t, 300, 1, 2, 63, 64, 200, 299)
	for most := 1; most <= 6; most++ {
		var got []int
		for n := range s.All() {
			if got = append(got, n); len(got) == most {
				break
			}
		}
		if !slices.Equal(got, []int{1, 2, 63, 64, 200, 299}[:most]) {
			t.Error("left behind", most, got)
		}
	}
	pairs := 0
	for range s.All() {
		for range s.All() {
			pairs++
		}
	}
	if pairs != 36 {
		t.Error("one in the other:", pairs)
	}
}

func TestFill(t *testing.T) {
	for _, size := range []int{0, 1, 63, 64, 65, 127, 128, 130} {
		var all []int
		for n := range size {
			all = append(all, n)
		}
		s := made(t, size)
		s.Put(size/2, true)
		s.Fill(true)
		holds(t, s, size, all)
		byPut := made(t, size, all...)
		if !bits.Same(s, byPut) {
			t.Error("filled, and put one by one, aren't the same:", size)
		}
		s.Fill(true)
		holds(t, s, size, all)
		s.Fill(false)
		holds(t, s, size, nil)
		if !bits.Same(s, made(t, size)) {
			t.Error("emptied, and new, aren't the same:", size)
		}
	}
	s := made(t, most)
	if s.Fill(true); s.Count() != most {
		t.Error("the greatest one:", s.Count())
	}
}

func TestCopySharesNothing(t *testing.T) {
	for _, size := range []int{0, 1, 64, 130} {
		s := made(t, size)
		s.Put(0, true)
		c := s.Copy()
		if c == nil || c == s || !bits.Same(s, c) {
			t.Fatal("a copy of", size)
		}
		before := slices.Collect(c.All())
		s.Fill(true)
		s.Put(0, false)
		holds(t, c, size, before)
		c.Fill(true)
		if s.Has(0) {
			t.Error("the copy changes the set", size)
		}
	}
}

func TestSame(t *testing.T) {
	a := made(t, 130, 0, 64, 129)
	for _, c := range []struct {
		b    *bits.Set
		same bool
	}{
		{a, true},
		{made(t, 130, 129, 64, 0), true},
		{made(t, 130, 0, 64), false},
		{made(t, 130, 0, 64, 128), false},
		{made(t, 130, 0, 64, 128, 129), false},
		{made(t, 131, 0, 64, 129), false}, // another size, as many words
		{made(t, 200, 0, 64, 129), false},
		{nil, false},
	} {
		if bits.Same(a, c.b) != c.same || bits.Same(c.b, a) != c.same {
			t.Error("Same isn't", c.same, "of", slices.Collect(c.b.All()))
		}
	}
	if !bits.Same(nil, nil) || bits.Same(nil, made(t, 0)) || bits.Same(made(t, 0), nil) {
		t.Error("Same of nil")
	}
	if bits.Same(made(t, 0), made(t, 1)) || !bits.Same(made(t, 0), made(t, 0)) {
		t.Error("Same of none")
	}
}

func TestNilSet(t *testing.T) {
	var s *bits.Set
	if s.Size() != 0 || s.Count() != 0 || s.Has(0) || s.Put(0, true) || s.Put(0, false) || s.Copy() != nil {
		t.Error("a nil set has something")
	}
	for _, n := range []int{math.MinInt, -1, 0, 1, math.MaxInt} {
		if at, ok := s.Next(n); ok || at != 0 {
			t.Error("Next of a nil set:", at, ok)
		}
	}
	for n := range s.All() {
		t.Error("All of a nil set tells", n)
	}
	s.Fill(true)
	s.Fill(false)
}

// TestAgainstMap does many puts, by a fixed rule, and holds the set against a map.
func TestAgainstMap(t *testing.T) {
	for _, size := range []int{1, 64, 100, 193} {
		s, in := made(t, size), map[int]bool{}
		x := uint32(size)
		for i := range 2000 {
			x = x*1664525 + 1013904223
			n, lay := int(x>>8)%(size+4)-2, x>>31 == 0
			may := n >= 0 && n < size
			if got, want := s.Put(n, lay), may && in[n] != lay; got != want {
				t.Fatalf("size %d: Put(%d, %v): %v", size, n, lay, got)
			}
			if may {
				in[n] = lay
			}
			if i%200 == 0 {
				holds(t, s, size, numbers(in))
			}
		}
		holds(t, s, size, numbers(in))
	}
}

// numbers is which numbers a map has, rising.
func numbers(in map[int]bool) []int {
	var l []int
	for n, has := range in {
		if has {
			l = append(l, n)
		}
	}
	slices.Sort(l)
	return l
}
