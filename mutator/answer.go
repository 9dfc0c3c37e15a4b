package mutator

import (
	"slices"

	"dustpan/api"
	"dustpan/note"
)

// reply is the first step of an answer to a request of a phase.
type reply func(m *Mut) note.Step

// replies is what is done of each phase.
func replies() map[int]reply {
	return map[int]reply{
		api.Arm:   (*Mut).arm,
		api.Sync:  (*Mut).sync,
		api.Scan:  (*Mut).scan,
		api.Drain: (*Mut).drain,
		api.Off:   (*Mut).off,
	}
}

// reply is the first step of an answer.
func (m *Mut) reply(kind int) note.Step {
	first, ok := replies()[kind]
	if !ok {
		// A board has any kind; one that asks nothing of a mutator must be answered all the same, or no other one could be asked.
		first = (*Mut).sync
	}
	return first(m)
}

// arm begins to log.
func (m *Mut) arm() note.Step {
	return m.answer(func() {
		m.buffer.Clear()
		m.mode = Both
		m.toBe = 1 - m.color
	})
}

// sync does nothing but the answer.
func (m *Mut) sync() note.Step {
	return m.answer(func() {})
}

// scan logs the registers. They stay as they are meanwhile, as no operation goes on.
func (m *Mut) scan() note.Step {
	then := m.answer(func() {
		m.color = m.toBe
	})
	for _, v := range slices.Backward(m.regs) {
		then = m.noter.Note(v, m.toBe, then)
	}
	return then
}

// drain hands over what is logged.
func (m *Mut) drain() note.Step {
	return m.noter.Pour(m.toBe, m.answer(func() {
		m.mode = Old
	}))
}

// off logs nothing any more.
func (m *Mut) off() note.Step {
	return m.answer(func() {
		m.buffer.Clear()
		m.mode = Off
	})
}

// answer is the last step of an answer: what else it does is the mutator's own.
func (m *Mut) answer(own func()) note.Step {
	return note.Once(func() {
		own()
		m.Board.Answer(m.id)
		m.mostAns = max(m.mostAns, m.took)
	})
}
