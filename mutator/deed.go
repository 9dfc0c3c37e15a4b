package mutator

import (
	"dustpan/api"
	"dustpan/note"
	"dustpan/op"
)

// deed is the first step of an operation whose Check is OK.
type deed func(m *Mut, o api.Op) note.Step

// deeds is what each kind does.
func deeds() map[int]deed {
	return map[int]deed{
		api.Alloc: (*Mut).alloc,
		api.Load:  (*Mut).load,
		api.Store: (*Mut).store,
		api.Get:   (*Mut).get,
		api.Set:   (*Mut).set,
		api.Drop:  (*Mut).drop,
		api.Move:  (*Mut).move,
		api.Safe:  (*Mut).safe,
	}
}

// operate is the first step of an operation.
func (m *Mut) operate(o api.Op) note.Step {
	if code := op.Check(m.Heap.Config(), o); code != api.OK {
		return func() note.Step {
			return m.end(0, code)
		}
	}
	return deeds()[o.Kind](m, o)
}

// load takes a field.
func (m *Mut) load(o api.Op) note.Step {
	return m.object(o.B, o.C, func(a int) note.Step {
		return m.take(o.A, func() (int, api.Errno) {
			return m.Heap.Load(a, o.C)
		})
	})
}

// store lays a field.
func (m *Mut) store(o api.Op) note.Step {
	return m.object(o.A, o.B, func(a int) note.Step {
		read := func() (int, api.Errno) {
			return m.Heap.Load(a, o.B)
		}
		return m.overwrite(read, m.regs[o.C], func(v int) api.Errno {
			return m.Heap.Store(a, o.B, v)
		})
	})
}

// get takes a cell.
func (m *Mut) get(o api.Op) note.Step {
	return m.take(o.A, func() (int, api.Errno) {
		return m.Heap.Cell(o.B)
	})
}

// set lays a cell.
func (m *Mut) set(o api.Op) note.Step {
	read := func() (int, api.Errno) {
		return m.Heap.Cell(o.A)
	}
	return m.overwrite(read, m.regs[o.B], func(v int) api.Errno {
		return m.Heap.SetCell(o.A, v)
	})
}

// drop forgets a register.
func (m *Mut) drop(o api.Op) note.Step {
	return m.take(o.A, func() (int, api.Errno) {
		return 0, api.OK
	})
}

// move takes another register.
func (m *Mut) move(o api.Op) note.Step {
	return m.take(o.A, func() (int, api.Errno) {
		return m.regs[o.B], api.OK
	})
}

// safe does nothing.
func (m *Mut) safe(api.Op) note.Step {
	return func() note.Step {
		return m.end(0, api.OK)
	}
}

// object is the step that reads the header of the object in a register; then comes what is done with the object, if it has that field.
func (m *Mut) object(r, field int, then func(a int) note.Step) note.Step {
	return func() note.Step {
		a := m.regs[r]
		n, code := m.Heap.Fields(a) // of 0 ErrNil
		switch {
		case code != api.OK:
			return m.end(0, code)
		case field < 0 || field >= n:
			return m.end(0, api.ErrField)
		}
		return then(a)
	}
}

// take is the last step of an operation that lays a register: with what is read, which is told.
func (m *Mut) take(r int, read func() (int, api.Errno)) note.Step {
	return func() note.Step {
		v, code := read()
		if code != api.OK {
			return m.end(0, code)
		}
		m.regs[r] = v
		return m.end(v, api.OK)
	}
}

// overwrite is the first step of laying a word. The word is laid last: till then what it overwrites is held, so that nothing is lost that wasn't noted.
func (m *Mut) overwrite(read func() (int, api.Errno), v int, lay func(v int) api.Errno) note.Step {
	last := func() note.Step {
		code := lay(v)
		m.held = 0
		return m.end(0, code)
	}
	if m.mode == Off {
		return last
	}
	return func() note.Step {
		m.held, _ = read()
		then := note.Step(last)
		if m.mode == Both {
			then = m.noter.Note(v, m.toBe, then)
		}
		return m.noter.Note(m.held, m.toBe, then)
	}
}

// end ends an operation: there is no step behind that.
func (m *Mut) end(v int, code api.Errno) note.Step {
	m.event = api.Event{Who: m.id, Kind: api.Did, Op: len(m.results), Code: code, Value: v}
	m.results = append(m.results, Result{Code: code, Value: v})
	m.mostOp = max(m.mostOp, m.took)
	return nil
}
