package fair_test

import (
	"math"
	"slices"
	"testing"

	"dustpan/fair"
	"dustpan/guess"
)

// same holds what there is, one by one, against what there should be.
func same(t *testing.T, what string, got []int, want ...int) {
	t.Helper()
	if !slices.Equal(got, want) {
		t.Fatalf("%s: %v; want %v", what, got, want)
	}
}

// plainFair is the chapter's words: a row is fair by k, if each of who is in each of its k picks.
func plainFair(picks []int, who, k int) bool {
	for at := 0; at+k <= len(picks); at++ {
		for one := range who {
			if !slices.Contains(picks[at:at+k], one) {
				return false
			}
		}
	}
	return true
}

// plainGap is the least k by which a row is fair, from 1 on.
func plainGap(picks []int, who int) int {
	k := 1
	for !plainFair(picks, who, k) {
		k++
	}
	return k
}

// The chapter's example.
func TestExample(t *testing.T) {
	row := []int{0, 1, 1, 0}
	if n := fair.Gap(row, 2); n != 3 {
		t.Error("Gap:", n)
	}
	for k, want := range []bool{false, false, false, true, true, true, true} {
		if fair.Fair(row, 2, k) != want {
			t.Errorf("Fair by %d: %v", k, !want)
		}
	}
}

// Each of the gaps ahead of, between and behind one's picks counts, and just those of who is asked of.
func TestGap(t *testing.T) {
	for _, x := range []struct {
		picks     []int
		who, want int
	}{
		{nil, 1, 1},
		{nil, 16, 1},
		{nil, math.MaxInt, 1},
		{[]int{}, 2, 1},
		{[]int{0}, 1, 1},
		{[]int{0, 0, 0}, 1, 1},
		{[]int{1}, 1, 2},
		{[]int{0}, 2, 2},
		{[]int{0, 1}, 2, 2},
		{[]int{0, 1, 0, 1, 0}, 2, 2},
		{[]int{0, 1, 0, 1, 1}, 2, 3},
		{[]int{1, 1, 1, 0}, 2, 4},    // ahead of the first one
		{[]int{0, 1, 1, 1}, 2, 4},    // behind the last one
		{[]int{0, 1, 1, 1, 0}, 2, 4}, // between two
		{[]int{0, 1, 1, 1, 0}, 1, 4},
		{[]int{0, 0, 0}, 2, 4}, // never
		{[]int{0, 0, 0}, math.MaxInt, 4},
		{[]int{0, 1, 2, 0, 1, 2}, 3, 3},
		{[]int{0, 1, 2, 0, 1, 2}, 2, 3},
		{[]int{0, 1, 2, 0, 1, 2}, 1, 3},
		{[]int{0, 1, 2, 0, 1, 2}, 4, 7},
		{[]int{2, 2, 2, 0, 1}, 2, 5}, // 2 isn't asked of, but its picks count
		{[]int{-1, 0, math.MinInt, math.MaxInt, 0, 1 << 32}, 1, 3},
		{[]int{-1, -2, -1}, 1, 4},
	} {
		if n := fair.Gap(x.picks, x.who); n != x.want {
			t.Errorf("Gap(%v, %d): %d; want %d", x.picks, x.who, n, x.want)
		}
		for k := 1; k < 10; k++ {
			if fair.Fair(x.picks, x.who, k) != (k >= x.want) {
				t.Errorf("Fair(%v, %d, %d): %v", x.picks, x.who, k, k < x.want)
			}
		}
		if !fair.Fair(x.picks, x.who, math.MaxInt) {
			t.Errorf("Fair(%v, %d) isn't by the greatest", x.picks, x.who)
		}
	}
}

// Of a k or a who that isn't above 0 no row is fair, and of such a who there is no gap.
func TestNotAboveZero(t *testing.T) {
	for _, picks := range [][]int{nil, {0}, {0, 1, 0, 1}, {-1, -1}} {
		for _, wrong := range []int{math.MinInt, -100, -1, 0} {
			for _, n := range []int{math.MinInt, -1, 0, 1, 2, 5, math.MaxInt} {
				if fair.Fair(picks, wrong, n) || fair.Fair(picks, n, wrong) {
					t.Errorf("%v is fair, of %d and %d", picks, wrong, n)
				}
			}
			if n := fair.Gap(picks, wrong); n != 0 {
				t.Errorf("Gap(%v, %d): %d", picks, wrong, n)
			}
		}
	}
}

// A row of fewer picks is fair, whoever isn't in it.
func TestFewerPicks(t *testing.T) {
	for n := range 6 {
		row := slices.Repeat([]int{7}, n)
		for _, who := range []int{1, 2, 8, 100, math.MaxInt} {
			for k := 1; k < 9; k++ {
				if fair.Fair(row, who, k) != (n < k) {
					t.Errorf("Fair of %d picks, %d, %d: %v", n, who, k, n >= k)
				}
			}
		}
	}
}

// Whatever the picks are, what is told is what the chapter's words say.
func TestAgainstPlain(t *testing.T) {
	gaps := map[int]int{}
	for seed := range uint64(3000) {
		roll := guess.By(seed)
		who := 1 + roll(5)
		var row []int
		for range roll(40) {
			row = append(row, roll(who+roll(3))-roll(50)/49)
		}
		was := slices.Clone(row)
		want := plainGap(row, who)
		gaps[want]++
		if n := fair.Gap(row, who); n != want {
			t.Fatalf("Gap(%v, %d): %d; want %d", row, who, n, want)
		}
		for k := 1; k <= len(row)+2; k++ {
			if fair.Fair(row, who, k) != plainFair(row, who, k) {
				t.Fatalf("Fair(%v, %d, %d): %v", row, who, k, !plainFair(row, who, k))
			}
		}
		same(t, "the picks", row, was...)
	}
	for _, n := range []int{1, 2, 5, 10, 20, 30} {
		if gaps[n] == 0 {
			t.Error("no row has the gap", n)
		}
	}
}

// Rows of as many picks as there may be are looked at soon, by windows of whatever length.
func TestLongRow(t *testing.T) {
	row := make([]int, 100000)
	for i := range row {
		row[i] = i % 9
	}
	row[60000] = 0 // in place of 6
	for _, k := range []int{1, 8, 9, 17} {
		if fair.Fair(row, 9, k) {
			t.Error("fair by", k)
		}
	}
	for _, k := range []int{18, 1000, 50000, 99999, 100000, 100001} {
		if !fair.Fair(row, 9, k) {
			t.Error("not fair by", k)
		}
	}
	if n := fair.Gap(row, 9); n != 18 {
		t.Error("Gap:", n)
	}
	if n := fair.Gap(row, 10); n != 100001 {
		t.Error("Gap of one who is never picked:", n)
	}
}

func TestCount(t *testing.T) {
	row := []int{0, 1, -1, 1, 9, 0, 1, math.MaxInt, math.MinInt}
	for who, want := range map[int]int{0: 2, 1: 3, 2: 0, 9: 1, -1: 1, -2: 0, math.MaxInt: 1, math.MinInt: 1, 1 << 32: 0} {
		if n := fair.Count(row, who); n != want {
			t.Errorf("Count(%d): %d; want %d", who, n, want)
		}
	}
	if n := fair.Count(nil, 0); n != 0 {
		t.Error("Count of none:", n)
	}
	same(t, "the picks", row, 0, 1, -1, 1, 9, 0, 1, math.MaxInt, math.MinInt)
}
