package collector

import (
	"slices"

	"dustpan/api"
	"dustpan/note"
)

// trace is the step behind Scan. All but the cells is logged by mutators, or reached from what is.
func (c *Coll) trace() note.Step {
	c.phase = api.Trace
	return c.cell(0)
}

// cell is the first step of looking at the cells, from one on.
func (c *Coll) cell(i int) note.Step {
	if i == c.Heap.Config().Cells {
		return c.search
	}
	return func() note.Step {
		v, _ := c.Heap.Cell(i)
		return c.look(v, c.cell(i+1))
	}
}

// look is the first step of looking at a value.
func (c *Coll) look(v int, then note.Step) note.Step {
	if v == 0 {
		return then
	}
	return func() note.Step {
		if fresh, _ := c.Heap.Paint(v, c.color); fresh {
			c.stack.Push(v) // if it is refused, it is found when all slots are gone through
		}
		return then
	}
}

// fields is the step that reads how many fields an object has, ahead of looking at each.
func (c *Coll) fields(a int, then note.Step) note.Step {
	return func() note.Step {
		n, _ := c.Heap.Fields(a)
		return c.field(a, 0, n, then)
	}
}

// field is the first step of looking at n fields, from one on.
func (c *Coll) field(a, i, n int, then note.Step) note.Step {
	if i == n {
		return then
	}
	return func() note.Step {
		v, _ := c.Heap.Load(a, i)
		return c.look(v, c.field(a, i+1, n, then))
	}
}

// search is the step that goes on with what is still to be looked at, wherever that is.
func (c *Coll) search() note.Step {
	if a, ok := c.stack.Pop(); ok {
		return c.fields(a, c.search)()
	}
	return c.boxes(0)()
}

// boxes is the step that looks into the next box, when so many were empty one behind the other. It stays at one that has some, so that what is in it costs no looks at the others.
func (c *Coll) boxes(empty int) note.Step {
	return func() note.Step {
		if empty >= len(c.Boxes) {
			return c.settle()
		}
		a, ok := c.Boxes[c.box%len(c.Boxes)].Next()
		if !ok {
			c.box++
			return c.boxes(empty + 1)
		}
		// Whatever color it has: it may be a mutator that painted it, which raises the flag later, but ahead of its next answer.
		c.again = true
		return c.look(a, c.search)
	}
}

// settle is the step that looks whether there is something painted that is neither on the stack nor in a box, and only found in its slot.
func (c *Coll) settle() note.Step {
	raised := c.Flag.Lower()
	refused := c.stack.Calm()
	switch {
	case raised || refused:
		c.again = true
		return c.walk(slices.Collect(c.Heap.Table().All()))
	case c.phase == api.Trace:
		return c.drain
	case c.again:
		return c.retrace
	}
	return c.marked
}

// walk is the step that looks at the fields of an object of the color, if the first slot is one, and then at the other slots.
func (c *Coll) walk(slots []int) note.Step {
	return func() note.Step {
		if len(slots) == 0 {
			c.walks++
			return c.search()
		}
		a, then := slots[0], c.walk(slots[1:])
		if color, code := c.Heap.Color(a); code != api.OK || color != c.color {
			return then
		}
		return c.fields(a, then)
	}
}

// drain asks all mutators of what they have logged.
func (c *Coll) drain() note.Step {
	c.drains++
	c.again = false
	return c.ask(api.Drain, c.search)
}

// retrace goes back to Trace, as there may be more to be looked at.
func (c *Coll) retrace() note.Step {
	c.phase = api.Trace
	return c.drain
}
