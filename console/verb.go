package console

import (
	"math"
	"strings"

	"dustpan/api"
	"dustpan/class"
	"dustpan/config"
	"dustpan/spell"
)

// mostTurns is how many turns one line has at most.
const mostTurns = 1000

// verb is what a first word does.
type verb struct {
	least, most int                                                         // how many numbers stand behind it
	tail        bool                                                        // whether something else stands behind its number
	look        func(l ...int) api.Errno                                    // what is wrong with its numbers, whatever else there is
	do          func(c *Console, tail string, l ...int) (string, api.Errno) // what it tells, without a line feed
}

// verbs is what each first word does.
func verbs() map[string]verb {
	return map[string]verb{
		"config": {least: 7, most: 7, look: unless(api.ErrArg, isRight), do: (*Console).configure},
		"mut":    {least: 1, most: 1, tail: true, look: whatever, do: (*Console).mut},
		"pick":   {least: 1, most: math.MaxInt, look: whatever, do: (*Console).pick},
		"turn":   {least: 1, most: 1, look: unless(api.ErrRange, isTurns), do: (*Console).turn},
		"wish":   {look: whatever, do: (*Console).wish},
		"event":  {least: 1, most: 1, look: whatever, do: (*Console).event},
		"reg":    {least: 2, most: 2, look: whatever, do: (*Console).reg},
		"cell":   {least: 1, most: 1, look: whatever, do: (*Console).cell},
		"live":   {look: whatever, do: (*Console).live},
		"state":  {look: whatever, do: (*Console).state},
		"free":   {least: 1, most: 1, look: unless(api.ErrArg, isClass), do: (*Console).free},
	}
}

// parse is what a line's first word does, and what stands behind it: what is no number, and the numbers; false, if that isn't as the word has it.
func parse(line string) (v verb, tail string, l []int, ok bool) {
	word, rest, more := strings.Cut(line, " ")
	v, ok = verbs()[word]
	if v.tail {
		rest, tail, ok = strings.Cut(rest, " ")
	}
	for ok && more {
		var n int
		word, rest, more = strings.Cut(rest, " ")
		n, ok = spell.Number(word)
		l = append(l, n)
	}
	return v, tail, l, ok && len(l) >= v.least && len(l) <= v.most
}

// whatever is the look at numbers of which none is wrong.
func whatever(...int) api.Errno {
	return api.OK
}

// unless is the look at numbers that are wrong, if something doesn't hold for them.
func unless(code api.Errno, holds func(l ...int) bool) func(l ...int) api.Errno {
	return func(l ...int) api.Errno {
		if !holds(l...) {
			return code
		}
		return api.OK
	}
}

// configOf is the config of its seven numbers.
func configOf(l ...int) api.Config {
	return api.Config{Blocks: l[0], Words: l[1], Muts: l[2], Regs: l[3], Cells: l[4], Log: l[5], Stack: l[6]}
}

// isRight tells whether numbers are a right config's.
func isRight(l ...int) bool {
	return config.Right(configOf(l...))
}

// isTurns tells whether a number is one of turns.
func isTurns(l ...int) bool {
	return l[0] >= 0 && l[0] <= mostTurns
}

// isClass tells whether a number is a class.
func isClass(l ...int) bool {
	return class.Is(l[0])
}
