package fair

import (
	"cmp"
	"slices"
)

// What can be spread.
const (
	mostWho   = 16
	mostBlock = 1000
)

// Spread is a row that is fair, by numbers.
func Spread(raw []uint16, who, block int) []int {
	if who < 1 || who > mostWho || block < who || block > mostBlock {
		return nil
	}
	var l []int
	for len(raw) >= block {
		l = append(l, order(raw[:who])...)
		for _, n := range raw[who:block] {
			l = append(l, int(n)%who)
		}
		raw = raw[block:]
	}
	return l
}

// order is the places of numbers, by these, rising; of two alike ones the lesser place first.
func order(numbers []uint16) []int {
	l := make([]int, len(numbers))
	for i := range l {
		l[i] = i
	}
	slices.SortStableFunc(l, func(i, j int) int { return cmp.Compare(numbers[i], numbers[j]) })
	return l
}
