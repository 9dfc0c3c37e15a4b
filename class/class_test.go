package class_test

import (
	"math"
	"slices"
	"testing"

	"dustpan/api"
	"dustpan/class"
)

// sizes are the words of each class's slots, as the document writes them.
func sizes() []int {
	return []int{2, 4, 8, 16}
}

// noClasses are numbers of no class.
func noClasses() []int {
	return []int{math.MinInt, -4, -1, 4, 5, 16, math.MaxInt}
}

// noBlocks are numbers of words that no block has.
func noBlocks() []int {
	return []int{math.MinInt, -16, -1, 0, 1, 2, 15, 257, 512, math.MaxInt}
}

// start is a slot's number, and its first word.
type start struct {
	slot, word int
}

// starts is what Starts tells.
func starts(words, k int) []start {
	var l []start
	for slot, word := range class.Starts(words, k) {
		l = append(l, start{slot, word})
	}
	return l
}

func TestClassesAndWhatTheyAreSizedBy(t *testing.T) {
	if len(sizes()) != api.Classes {
		t.Fatal("there are", api.Classes)
	}
	for k, size := range sizes() {
		if !class.Is(k) || class.Size(k) != size || class.Room(k) != size-1 {
			t.Errorf("class %d: %v, size %d, room %d; want size %d", k, class.Is(k), class.Size(k), class.Room(k), size)
		}
	}
}

func TestNoClasses(t *testing.T) {
	for _, k := range noClasses() {
		if class.Is(k) || class.Size(k) != 0 || class.Room(k) != 0 {
			t.Errorf("class %d: %v, size %d, room %d", k, class.Is(k), class.Size(k), class.Room(k))
		}
		for _, words := range []int{16, 20, 256} {
			if n := class.PerBlock(words, k); n != 0 {
				t.Errorf("PerBlock(%d, %d): %d", words, k, n)
			}
			if l := starts(words, k); len(l) != 0 {
				t.Errorf("Starts(%d, %d): %v", words, k, l)
			}
		}
	}
}

func TestOfEveryNumberOfFields(t *testing.T) {
	want := []int{0, 0, 1, 1, 2, 2, 2, 2, 3, 3, 3, 3, 3, 3, 3, 3}
	if len(want) != api.MaxFields+1 {
		t.Fatal("fields up to", api.MaxFields)
	}
	for fields, k := range want {
		if got, ok := class.Of(fields); !ok || got != k {
			t.Errorf("Of(%d): %d, %v; want %d", fields, got, ok, k)
		}
	}
}

// TestOfIsTheLeastWithRoom holds what Of tells against what Room does.
func TestOfIsTheLeastWithRoom(t *testing.T) {
	for fields := range api.MaxFields + 1 {
		k, ok := class.Of(fields)
		if !ok || !class.Is(k) || fields > class.Room(k) {
			t.Errorf("Of(%d): %d, %v, of room %d", fields, k, ok, class.Room(k))
		}
		if k > 0 && fields <= class.Room(k-1) {
			t.Errorf("Of(%d): %d, but the one below has room", fields, k)
		}
	}
}

func TestOfFieldsThatCannotBe(t *testing.T) {
	for _, fields := range []int{math.MinInt, -16, -2, -1, 16, 17, 31, math.MaxInt} {
		if k, ok := class.Of(fields); ok || k != 0 {
			t.Errorf("Of(%d): %d, %v", fields, k, ok)
		}
	}
}

func TestPerBlockInNumbers(t *testing.T) {
	for _, c := range []struct {
		words int
		want  [4]int
	}{
		{16, [4]int{8, 4, 2, 1}},
		{17, [4]int{8, 4, 2, 1}},
		{19, [4]int{9, 4, 2, 1}},
		{20, [4]int{10, 5, 2, 1}},
		{31, [4]int{15, 7, 3, 1}},
		{32, [4]int{16, 8, 4, 2}},
		{255, [4]int{127, 63, 31, 15}},
		{256, [4]int{128, 64, 32, 16}},
	} {
		for k, want := range c.want {
			if got := class.PerBlock(c.words, k); got != want {
				t.Errorf("PerBlock(%d, %d): %d; want %d", c.words, k, got, want)
			}
		}
	}
}

// TestPerBlockIsAllThatFit asks of every block whether one slot more would fit.
func TestPerBlockIsAllThatFit(t *testing.T) {
	for words := api.MinWords; words <= api.MaxWords; words++ {
		for k, size := range sizes() {
			n := class.PerBlock(words, k)
			if n < 1 || n*size > words || (n+1)*size <= words {
				t.Errorf("PerBlock(%d, %d): %d", words, k, n)
			}
		}
	}
}

func TestBlocksThatCannotBe(t *testing.T) {
	for _, words := range noBlocks() {
		for k := range sizes() {
			if n := class.PerBlock(words, k); n != 0 {
				t.Errorf("PerBlock(%d, %d): %d", words, k, n)
			}
			if l := starts(words, k); len(l) != 0 {
				t.Errorf("Starts(%d, %d): %v", words, k, l)
			}
		}
		if n := class.PerBlock(words, api.Classes); n != 0 {
			t.Errorf("PerBlock(%d, %d): %d", words, api.Classes, n)
		}
	}
}

func TestStartsInNumbers(t *testing.T) {
	for _, c := range []struct {
		words, class int
		want         []start
	}{
		{16, 0, []start{{0, 0}, {1, 2}, {2, 4}, {3, 6}, {4, 8}, {5, 10}, {6, 12}, {7, 14}}},
		{16, 3, []start{{0, 0}}},
		{20, 2, []start{{0, 0}, {1, 8}}},
		{21, 1, []start{{0, 0}, {1, 4}, {2, 8}, {3, 12}, {4, 16}}},
		{47, 3, []start{{0, 0}, {1, 16}}},
	} {
		if got := starts(c.words, c.class); !slices.Equal(got, c.want) {
			t.Errorf("Starts(%d, %d): %v; want %v", c.words, c.class, got, c.want)
		}
	}
}

func TestStartsOfEveryBlock(t *testing.T) {
	for words := api.MinWords; words <= api.MaxWords; words++ {
		for k, size := range sizes() {
			got := starts(words, k)
			if len(got) != class.PerBlock(words, k) {
				t.Fatalf("Starts(%d, %d): %d slots", words, k, len(got))
			}
			for i, s := range got {
				if s != (start{i, i * size}) {
					t.Fatalf("Starts(%d, %d), %d: %v", words, k, i, s)
				}
			}
		}
	}
}

func TestStartsIsLeftAnywhere(t *testing.T) {
	all := starts(20, 1)
	for most := 1; most <= len(all); most++ {
		var got []start
		for slot, word := range class.Starts(20, 1) {
			if got = append(got, start{slot, word}); len(got) == most {
				break
			}
		}
		if !slices.Equal(got, all[:most]) {
			t.Error("left behind", most, got)
		}
	}
}

func TestStartsIsRangedOverAgain(t *testing.T) {
	seq := class.Starts(20, 1)
	for range 2 {
		n := 0
		for range seq {
			for range seq {
				n++
			}
		}
		if n != 25 {
			t.Error("one in the other:", n)
		}
	}
}
