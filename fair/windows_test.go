package fair_test

import (
	"math"
	"slices"
	"testing"

	"dustpan/fair"
)

func TestWindows(t *testing.T) {
	row := []int{5, 0, -3, 7, 7}
	for k := 1; k <= 7; k++ {
		n := 0
		for at, window := range fair.Windows(row, k) {
			if at != n {
				t.Errorf("by %d: the place %d; want %d", k, at, n)
			}
			same(t, "a window", window, row[at:at+k]...)
			n++
		}
		if n != max(len(row)-k+1, 0) {
			t.Errorf("by %d: %d windows", k, n)
		}
	}
}

// There is nothing of a k below 1, or one that is more than there are.
func TestNoWindows(t *testing.T) {
	for _, picks := range [][]int{nil, {}, {0}, {0, 1, 2}} {
		for _, k := range []int{math.MinInt, math.MinInt + 1, -1 << 32, -4, -1, 0, 4, 1 << 32, math.MaxInt - 1, math.MaxInt} {
			for at, window := range fair.Windows(picks, k) {
				t.Errorf("Windows(%v, %d): %d, %v", picks, k, at, window)
			}
		}
	}
	for range fair.Windows(nil, 1) {
		t.Error("a window of no picks")
	}
}

// Ranging can be left, and begun again: then it begins at the first one.
func TestWindowsLeft(t *testing.T) {
	all := fair.Windows([]int{4, 5, 6, 7}, 2)
	for last := range 3 {
		for range 2 {
			var places []int
			for at := range all {
				places = append(places, at)
				if at == last {
					break
				}
			}
			same(t, "the places", places, []int{0, 1, 2}[:last+1]...)
		}
	}
}

// What is handed in is neither changed nor kept, and each window is new memory.
func TestWindowsShareNothing(t *testing.T) {
	room := []int{1, 2, 3, 4, 99}
	row := room[:4]
	all := fair.Windows(row, 3)
	row[1] = 20 // behind the call
	told := func() [][]int {
		var l [][]int
		for at, window := range all {
			l = append(l, slices.Clone(window))
			clear(window)
			_ = append(window, 77)
			row[at] = 50 // while it is ranged over
		}
		return l
	}
	for range 2 {
		l := told()
		if len(l) != 2 {
			t.Fatal("so many windows:", len(l))
		}
		same(t, "the first one", l[0], 1, 2, 3)
		same(t, "the second one", l[1], 2, 3, 4)
	}
	same(t, "what was handed in", room, 50, 50, 3, 4, 99)
}
