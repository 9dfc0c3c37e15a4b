package mutator

import (
	"dustpan/api"
	"dustpan/class"
	"dustpan/note"
	"dustpan/sweep"
)

// alloc makes an object. Slots are looked for where that takes least: in a list, in a block that isn't assigned, in one that is still to be swept.
func (m *Mut) alloc(o api.Op) note.Step {
	k, _ := class.Of(o.B) // as its Check is OK, there is a class for so many fields
	refuse := func() note.Step {
		return m.end(0, api.ErrMemory)
	}
	// Looked at once more ahead of a refusal, whether a block was swept or not: others may have freed a slot meanwhile.
	again := m.slot(k, o, refuse)
	late := m.late(k, again)
	return m.slot(k, o, func() note.Step {
		return m.assign(k, o, late)
	})
}

// slot is the step that takes a free slot, for the object; without one comes what none answers, by the same pick.
func (m *Mut) slot(k int, o api.Op, none func() note.Step) note.Step {
	return func() note.Step {
		a, code := m.Heap.Take(k)
		if code != api.OK {
			return none()
		}
		return m.begin(a, o)
	}
}

// assign is the step that assigns a block, of which the first slot is for the object; without one then comes.
func (m *Mut) assign(k int, o api.Op, then note.Step) note.Step {
	return func() note.Step {
		slots, code := m.Heap.Assign(k)
		if code != api.OK {
			return then
		}
		return m.put(slots[1:], m.begin(slots[0], o))
	}
}

// put is the first step of putting slots, from the last one on.
func (m *Mut) put(slots []int, then note.Step) note.Step {
	if len(slots) == 0 {
		return then
	}
	last := len(slots) - 1
	return func() note.Step {
		m.Heap.Put(slots[last])
		return m.put(slots[:last], then)
	}
}

// late is the step that takes a block that is still to be swept, if one waits.
func (m *Mut) late(k int, then note.Step) note.Step {
	return func() note.Step {
		b, code := m.Queue.Take(k)
		if code != api.OK {
			return then
		}
		c, _ := sweep.New(m.Heap, b, m.color) // it is assigned, as no other one is put into the queue
		return m.sweep(c, func() note.Step {
			m.Queue.Done()
			return then
		})
	}
}

// sweep is the first step of sweeping what a cursor has left.
func (m *Mut) sweep(c *sweep.Cursor, then note.Step) note.Step {
	if c.Done() {
		return then
	}
	return func() note.Step {
		if a, freed := c.Step(); freed {
			m.event = api.Event{Who: m.id, Kind: api.Freed, Value: a}
		}
		return m.sweep(c, then)
	}
}

// begin is the step that begins a slot in hand.
func (m *Mut) begin(a int, o api.Op) note.Step {
	return func() note.Step {
		m.Heap.Begin(a, o.B)
		return m.blank(a, 0, o)
	}
}

// blank is the first step of laying 0 into the fields, from one on. Behind that the object is born by the pick by which a register has it, so that it isn't garbage at any time between.
func (m *Mut) blank(a, field int, o api.Op) note.Step {
	if field == o.B {
		return m.take(o.A, func() (int, api.Errno) {
			return a, m.Heap.Bear(a, m.color)
		})
	}
	return func() note.Step {
		m.Heap.Store(a, field, 0)
		return m.blank(a, field+1, o)
	}
}
