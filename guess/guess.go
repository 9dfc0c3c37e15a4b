// Package guess is scripts of all sorts by a fixed rule, for tests: the same seed has the same ones.
package guess

import (
	"slices"

	"dustpan/api"
)

// Rule is numbers, one behind the other: each time one from 0 on, below n.
type Rule func(n int) int

// By is the rule of a seed.
func By(seed uint64) Rule {
	x := seed*2862933555777941757 + 1
	return func(n int) int {
		x = x*6364136223846793005 + 1442695040888963407
		return int(x>>33) % n
	}
}

// Config is a small config, of which all is scarce.
func Config(roll Rule) api.Config {
	return api.Config{Blocks: 1 + roll(5), Words: 16 + roll(9), Muts: 1 + roll(4), Regs: 1 + roll(4), Cells: roll(4), Log: 1 + roll(3), Stack: 1 + roll(5)}
}

// Programs is as many programs as a config has mutators, each of n operations, those that are wrong among them.
func Programs(roll Rule, c api.Config, n int) [][]api.Op {
	size := 1 + roll(4)
	l := make([][]api.Op, c.Muts)
	for id := range l {
		for range n {
			l[id] = append(l[id], operation(roll, c, size))
		}
	}
	return l
}

// operation is one of a program most of whose objects have a size.
func operation(roll Rule, c api.Config, size int) api.Op {
	o := api.Op{Kind: 1 + roll(8), A: roll(c.Regs), B: roll(c.Regs), C: roll(c.Regs)}
	switch o.Kind {
	case api.Alloc:
		if o.B = size; roll(10) == 0 {
			o.B = roll(17)
		}
	case api.Load:
		o.C = roll(size+1) - roll(2)
	case api.Store:
		o.B = roll(size+1) - roll(2)
	case api.Get:
		o.B = roll(c.Cells + 1)
	case api.Set:
		o.A = roll(c.Cells + 1)
	}
	if roll(40) == 0 {
		o.A, o.B, o.C = roll(20)-2, roll(20)-2, roll(20)-2
	}
	return o
}

// Picks is n picks at least, of each of whom some come in one go, so that none are fair.
func Picks(roll Rule, c api.Config, n int) []int {
	most, mine := 1+roll(30), 1+roll(60)
	var l []int
	for len(l) < n {
		who := roll(c.Muts + 1)
		switch {
		case roll(4) == 0:
			l = append(l, c.Muts+1)
		case who == c.Muts:
			l = append(l, slices.Repeat([]int{who}, 1+roll(mine))...)
		default:
			l = append(l, slices.Repeat([]int{who}, 1+roll(most))...)
		}
	}
	return l
}

// Row is n picks of all below who, each of them once at least: rows of them, one behind the other, are fair by twice n, less one.
func Row(roll Rule, who, n int) []int {
	l := make([]int, n)
	for i := range l {
		if l[i] = i; i >= who {
			l[i] = roll(who)
		}
		other := roll(i + 1)
		l[i], l[other] = l[other], l[i]
	}
	return l
}
