// Package config is layer 2: how great a machine is.
package config

import (
	"dustpan/api"
)

// top is what no number of picks goes beyond.
const top = 1 << 62

// limit is from where to where a number may be.
type limit struct {
	least, most int
}

// limits are those of a config's numbers, in the order of its fields.
var limits = [7]limit{
	{1, api.MaxBlocks},
	{api.MinWords, api.MaxWords},
	{1, api.MaxMuts},
	{1, api.MaxRegs},
	{0, api.MaxCells},
	{1, api.MaxLog},
	{1, api.MaxStack},
}

// Clamp is a config whose numbers may be.
func Clamp(c api.Config) api.Config {
	return each(c, func(place, n int) int {
		return min(max(n, limits[place].least), limits[place].most)
	})
}

// Right tells whether a config is.
func Right(c api.Config) bool {
	return c == Clamp(c)
}

// Words is all words.
func Words(c api.Config) int {
	return bound(c, func() int {
		return c.Blocks * c.Words
	})
}

// Slots is all slots.
func Slots(c api.Config) int {
	return bound(c, func() int {
		// Halved first: no slot reaches from one block into the next.
		return c.Blocks * (c.Words / 2)
	})
}

// OpPicks is how many picks an operation takes at most.
func OpPicks(c api.Config) int {
	return bound(c, func() int {
		return 64 + 4*c.Log + c.Words
	})
}

// AnswerPicks is how many picks an answer takes at most.
func AnswerPicks(c api.Config) int {
	return bound(c, func() int {
		return 16 + c.Regs*(c.Log+8) + 4*c.Log
	})
}

// Marking is how many picks marking takes at most.
func Marking(c api.Config, k int) int {
	return times(k, bound(c, func() int {
		return marking(c)
	}))
}

// Cycle is how many picks a cycle takes at most.
func Cycle(c api.Config, k int) int {
	return times(k, bound(c, func() int {
		return marking(c) + resting(c)
	}))
}

// marking is how many rounds of picks marking takes at most.
func marking(c api.Config) int {
	n := Slots(c)
	looks := 40*n + 2*c.Muts*(c.Log+4) + 2*c.Cells
	return (2*n + 6) * (looks + OpPicks(c) + AnswerPicks(c) + 40)
}

// resting is how many rounds of picks come behind marking at most.
func resting(c api.Config) int {
	return 2*c.Blocks*(c.Words+8) + 3*OpPicks(c) + 2*AnswerPicks(c) + 4*c.Muts + 60
}

// each is the config that has what tell tells of each number, by its place.
func each(c api.Config, tell func(place, n int) int) api.Config {
	return api.Config{
		Blocks: tell(0, c.Blocks),
		Words:  tell(1, c.Words),
		Muts:   tell(2, c.Muts),
		Regs:   tell(3, c.Regs),
		Cells:  tell(4, c.Cells),
		Log:    tell(5, c.Log),
		Stack:  tell(6, c.Stack),
	}
}

// bound is what tell tells, of a right config; else 0.
func bound(c api.Config, tell func() int) int {
	if !Right(c) {
		return 0
	}
	return tell()
}

// times is k times n, at most top; 0 of a k or an n below 1.
func times(k, n int) int {
	if k < 1 || n < 1 {
		return 0
	}
	// Asked by dividing, as the product itself may be beyond an int.
	if k > top/n {
		return top
	}
	return k * n
}
