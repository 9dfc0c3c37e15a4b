package collector

import (
	"dustpan/api"
	"dustpan/note"
	"dustpan/sweep"
)

// marked is the step that ends marking.
func (c *Coll) marked() note.Step {
	c.phase = api.Sweep
	c.tell(api.Marked, c.cycles)
	return c.enqueue()
}

// enqueue is the first step of putting the blocks that are assigned into the queue. Those that mutators assign later need no sweeping: all that is born in them has the color.
func (c *Coll) enqueue() note.Step {
	then := note.Step(c.take)
	table := c.Heap.Table()
	for b := c.Heap.Config().Blocks - 1; b >= 0; b-- {
		if class, assigned := table.Class(b); assigned {
			then = c.put(class, b, then)
		}
	}
	return then
}

// put is the step that puts a block into the queue.
func (c *Coll) put(class, b int, then note.Step) note.Step {
	return func() note.Step {
		c.Queue.Put(class, b)
		return then
	}
}

// take is the step that takes a block that is still to be swept.
func (c *Coll) take() note.Step {
	b, _, code := c.Queue.Any()
	if code != api.OK {
		return c.rest
	}
	cursor, _ := sweep.New(c.Heap, b, c.color) // it is assigned, as no other one is put into the queue
	return c.sweep(cursor)
}

// sweep is the first step of sweeping what a cursor has left.
func (c *Coll) sweep(cursor *sweep.Cursor) note.Step {
	if cursor.Done() {
		return c.done
	}
	return func() note.Step {
		if a, freed := cursor.Step(); freed {
			c.tell(api.Freed, a)
		}
		return c.sweep(cursor)
	}
}

// done is the step that tells the queue that a block is swept.
func (c *Coll) done() note.Step {
	c.Queue.Done()
	return c.take
}

// rest is the step that looks whether all blocks are swept, those that mutators have taken, too.
func (c *Coll) rest() note.Step {
	if !c.Queue.Rests() {
		return c.take
	}
	return c.off
}
