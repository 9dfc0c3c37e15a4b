package console

import (
	"slices"

	"dustpan/api"
	"dustpan/ghost"
	"dustpan/op"
	"dustpan/phase"
	"dustpan/spell"
	"dustpan/tape"
	"dustpan/world"
)

// configure begins anew, with a config that is right.
func (c *Console) configure(_ string, l ...int) (string, api.Errno) {
	c.begin(configOf(l...))
	return fine(), api.OK
}

// mut adds the operation of a line to a mutator's program.
func (c *Console) mut(line string, l ...int) (string, api.Errno) {
	o, code := op.Parse(line)
	switch program, is := at(c.programs, l[0]); {
	case !is:
		return "", api.ErrRange
	case c.world != nil:
		return "", api.ErrState
	case code != api.OK:
		return "", code
	case len(program) == api.MaxProgram:
		return "", api.ErrFull
	}
	c.programs[l[0]] = append(c.programs[l[0]], o)
	return fine(), api.OK
}

// pick does picks.
func (c *Console) pick(_ string, l ...int) (string, api.Errno) {
	return c.run(l...)
}

// turn picks all mutators, and then the collector, so often.
func (c *Console) turn(_ string, l ...int) (string, api.Errno) {
	var all []int
	for who := range c.config.Muts + 1 {
		all = append(all, who)
	}
	return c.run(slices.Repeat(all, l[0])...)
}

// wish wishes a cycle.
func (c *Console) wish(string, ...int) (string, api.Errno) {
	return c.run(c.config.Muts + 1)
}

// event tells the event of a place.
func (c *Console) event(_ string, l ...int) (string, api.Errno) {
	e, is := at(c.made().Events(), l[0])
	if !is {
		return "", api.ErrNone
	}
	return tape.Event(e)
}

// reg tells a register of a mutator.
func (c *Console) reg(_ string, l ...int) (string, api.Errno) {
	v, is := at(c.made().Mut(l[0]).Regs(), l[1]) // of no mutator there are none
	if !is {
		return "", api.ErrRange
	}
	return fine(v), api.OK
}

// cell tells a cell.
func (c *Console) cell(_ string, l ...int) (string, api.Errno) {
	v, code := c.made().Shared().Heap.Cell(l[0])
	if code != api.OK {
		return "", api.ErrRange
	}
	return fine(v), api.OK
}

// live tells how many objects there are, and how many of them are garbage.
func (c *Console) live(string, ...int) (string, api.Errno) {
	w := c.made()
	return fine(len(w.Shared().Heap.Objects()), len(ghost.Garbage(w))), api.OK
}

// state tells where the collector is, and whether the programs have ended.
func (c *Console) state(string, ...int) (string, api.Errno) {
	w, rest := c.made(), " busy"
	if w.Done() {
		rest = " done"
	}
	return spell.Line(phase.Name(w.Coll().Phase()), w.Picks(), w.Coll().Cycles()) + rest, api.OK
}

// free tells how many slots of a class are free.
func (c *Console) free(_ string, l ...int) (string, api.Errno) {
	return fine(len(c.made().Shared().Heap.Frees(l[0]))), api.OK
}

// made is the world, which is made now, if there is none.
func (c *Console) made() *world.World {
	if c.world == nil {
		c.world, _ = world.New(c.config, c.programs...) // as the config is right, and no program is too long
	}
	return c.world
}

// run does picks in the world, and tells how many events there are.
func (c *Console) run(picks ...int) (string, api.Errno) {
	w := c.made()
	if _, code := w.Run(picks...); code != api.OK {
		return "", code
	}
	return fine(len(w.Events())), api.OK
}

// at is what a row has at a place, and true; false, if there is no such place.
func at[T any](row []T, place int) (T, bool) {
	if place < 0 || place >= len(row) {
		var none T
		return none, false
	}
	return row[place], true
}
