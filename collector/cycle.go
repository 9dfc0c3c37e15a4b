package collector

import (
	"dustpan/api"
	"dustpan/note"
)

// begin begins a cycle.
func (c *Coll) begin() note.Step {
	c.wished = false
	c.cycles++
	c.color = 1 - c.color
	c.tell(api.Start, c.cycles)
	return c.ask(api.Arm, c.sync)
}

// sync is the step behind Arm.
func (c *Coll) sync() note.Step {
	return c.ask(api.Sync, c.scan)
}

// scan is the step behind Sync.
func (c *Coll) scan() note.Step {
	return c.ask(api.Scan, c.trace)
}

// off is the step behind Sweep.
func (c *Coll) off() note.Step {
	return c.ask(api.Off, c.idle)
}

// idle ends a cycle: there is no step behind that.
func (c *Coll) idle() note.Step {
	c.phase = api.Idle
	c.tell(api.Rested, c.cycles)
	return nil
}

// ask asks all mutators of a phase; when they have answered, then comes.
func (c *Coll) ask(phase int, then note.Step) note.Step {
	c.phase = phase
	c.Board.Ask(phase)
	return c.await(0, then)
}

// await is the step that looks whether a mutator has answered, and whether those behind it have. One that has is not looked at again: it owes nothing till the next request.
func (c *Coll) await(m int, then note.Step) note.Step {
	return func() note.Step {
		switch {
		case !c.Board.Answered(m):
			return c.await(m, then)
		case m+1 < c.Heap.Config().Muts:
			return c.await(m+1, then)
		}
		return then
	}
}
