package heap_test

import (
	"slices"
	"testing"

	"dustpan/api"
	"dustpan/heap"
)

// What a slot of a model is.
const (
	inHand = iota
	isFree
	isObject
)

// slot is a slot of a model: what it is, and what its words say.
type slot struct {
	class, is     int
	begun         bool
	fields, color int
	words         [15]int
}

// model is a heap that is told by rows and maps: addresses are looked for, nothing is laid as a word.
type model struct {
	blocks, words int
	classes       []int
	slots         map[int]*slot
	lists         [4][]int // the first one first
	cells         [3]int
}

// sizes are how many words the slots of each class have.
func sizes() [4]int {
	return [4]int{2, 4, 8, 16}
}

// isOne tells whether a number is 0 or 1.
func isOne(c int) bool {
	return c == 0 || c == 1
}

// take is what Take tells.
func (m *model) take(k int) (int, api.Errno) {
	switch {
	case k < 0 || k > 3:
		return 0, api.ErrArg
	case len(m.lists[k]) == 0:
		return 0, api.ErrNone
	}
	a := m.lists[k][0]
	m.lists[k] = m.lists[k][1:]
	m.slots[a].is = inHand
	return a, api.OK
}

// assign is what Assign tells.
func (m *model) assign(k int) ([]int, api.Errno) {
	switch {
	case k < 0 || k > 3:
		return nil, api.ErrArg
	case len(m.classes) == m.blocks:
		return nil, api.ErrMemory
	}
	var l []int
	for word := 0; word+sizes()[k] <= m.words; word += sizes()[k] {
		a := len(m.classes)*m.words + word + 1
		m.slots[a] = &slot{class: k}
		l = append(l, a)
	}
	m.classes = append(m.classes, k)
	return l, api.OK
}

// put is what Put tells.
func (m *model) put(a int) api.Errno {
	s := m.slots[a]
	switch {
	case s == nil:
		return api.ErrArg
	case s.is != inHand:
		return api.ErrState
	}
	m.frees(a, s)
	return api.OK
}

// frees makes a slot free.
func (m *model) frees(a int, s *slot) {
	s.is, s.begun = isFree, false
	m.lists[s.class] = slices.Insert(m.lists[s.class], 0, a)
}

// begin is what Begin tells.
func (m *model) begin(a, fields int) api.Errno {
	s := m.slots[a]
	switch {
	case s == nil || s.is != inHand:
		return api.ErrArg
	case fields < 0 || fields >= sizes()[s.class]:
		return api.ErrSize
	}
	s.begun, s.fields = true, fields
	return api.OK
}

// bear is what Bear tells.
func (m *model) bear(a, c int) api.Errno {
	s := m.slots[a]
	switch {
	case s == nil || s.is != inHand || !isOne(c):
		return api.ErrArg
	case !s.begun:
		return api.ErrState
	}
	s.is, s.color = isObject, c
	return api.OK
}

// free is what Free tells.
func (m *model) free(a int) api.Errno {
	s := m.slots[a]
	if s == nil || s.is != isObject {
		return api.ErrArg
	}
	m.frees(a, s)
	return api.OK
}

// load is what Load tells.
func (m *model) load(a, field int) (int, api.Errno) {
	s := m.slots[a]
	switch {
	case a == 0:
		return 0, api.ErrNil
	case s == nil || !s.begun:
		return 0, api.ErrArg
	case field < 0 || field >= s.fields:
		return 0, api.ErrField
	}
	return s.words[field], api.OK
}

// store is what Store tells.
func (m *model) store(a, field, v int) api.Errno {
	if _, e := m.load(a, field); e != api.OK {
		return e
	}
	if v < 0 || v > m.blocks*m.words {
		return api.ErrRange
	}
	m.slots[a].words[field] = v
	return api.OK
}

// color is what Color tells.
func (m *model) color(a int) (int, api.Errno) {
	s := m.slots[a]
	if s == nil || s.is != isObject {
		return 0, api.ErrArg
	}
	return s.color, api.OK
}

// paint is what Paint tells.
func (m *model) paint(a, c int) (bool, api.Errno) {
	was, e := m.color(a)
	if e != api.OK || !isOne(c) {
		return false, api.ErrArg
	}
	m.slots[a].color = c
	return was != c, api.OK
}

// setCell is what SetCell tells.
func (m *model) setCell(i, v int) api.Errno {
	switch {
	case i < 0 || i > 2:
		return api.ErrCell
	case v < 0 || v > m.blocks*m.words:
		return api.ErrRange
	}
	m.cells[i] = v
	return api.OK
}

// make is what Make tells.
func (m *model) make(fields, c int) (int, api.Errno) {
	k := slices.IndexFunc([]int{1, 3, 7, 15}, func(room int) bool { return fields <= room })
	switch {
	case fields < 0 || k < 0:
		return 0, api.ErrSize
	case !isOne(c):
		return 0, api.ErrArg
	}
	a, e := m.take(k)
	if e != api.OK {
		l, e := m.assign(k)
		if e != api.OK {
			return 0, e
		}
		a = l[0]
		for i := len(l) - 1; i > 0; i-- {
			m.put(l[i])
		}
	}
	m.begin(a, fields)
	for field := range fields {
		m.slots[a].words[field] = 0
	}
	m.bear(a, c)
	return a, api.OK
}

// state is what the slots are.
func (m *model) state() state {
	s := state{frees: m.lists}
	for a := range m.blocks*m.words + 1 {
		switch x := m.slots[a]; {
		case x != nil && x.is == isObject:
			s.objects = append(s.objects, a)
		case x != nil && x.is == inHand:
			s.hands = append(s.hands, a)
		}
	}
	return s
}

// told is what a call told, of whatever kind it is.
type told struct {
	n  int
	ok bool
	l  []int
	e  api.Errno
}

// number is what a call told that tells a number.
func number(n int, e api.Errno) told {
	return told{n: n, e: e}
}

// both does the same thing to a heap and to its model.
func both(h *heap.Heap, m *model, what, x, y, z int) (told, told) {
	switch what {
	case 0:
		return number(h.Take(x)), number(m.take(x))
	case 1:
		l, e := h.Assign(x)
		k, f := m.assign(x)
		return told{l: l, e: e}, told{l: k, e: f}
	case 2:
		return told{e: h.Put(y)}, told{e: m.put(y)}
	case 3:
		return told{e: h.Begin(y, x)}, told{e: m.begin(y, x)}
	case 4:
		return told{e: h.Bear(y, x)}, told{e: m.bear(y, x)}
	case 5:
		return told{e: h.Free(y)}, told{e: m.free(y)}
	case 6:
		return number(h.Load(y, x)), number(m.load(y, x))
	case 7:
		return told{e: h.Store(y, x, z)}, told{e: m.store(y, x, z)}
	case 8:
		return number(h.Color(y)), number(m.color(y))
	case 9:
		ok, e := h.Paint(y, x)
		in, f := m.paint(y, x)
		return told{ok: ok, e: e}, told{ok: in, e: f}
	case 10:
		return told{e: h.SetCell(x, z)}, told{e: m.setCell(x, z)}
	default:
		return number(h.Make(x, z%3)), number(m.make(x, z%3))
	}
}

// agree looks at all that a heap and its model tell.
func agree(t *testing.T, h *heap.Heap, m *model) {
	t.Helper()
	holds(t, h, m.state())
	for a := range m.blocks*m.words + 1 {
		for field := range 16 {
			v, e := h.Load(a, field)
			if w, f := m.load(a, field); v != w || e != f {
				t.Errorf("Load(%d, %d): %d, %d; want %d, %d", a, field, v, e, w, f)
			}
		}
		c, e := h.Color(a)
		if d, f := m.color(a); c != d || e != f {
			t.Errorf("Color(%d): %d, %d; want %d, %d", a, c, e, d, f)
		}
	}
	for i, w := range m.cells {
		if v, e := h.Cell(i); v != w || e != api.OK {
			t.Errorf("Cell(%d): %d, %d; want %d", i, v, e, w)
		}
	}
	if n := len(h.Table().Unassigned()); n != m.blocks-len(m.classes) {
		t.Errorf("%d blocks aren't assigned", n)
	}
}

// TestAgainstAModel does things to a heap by a fixed rule, and holds it against a model.
func TestAgainstAModel(t *testing.T) {
	for seed := range 6 {
		h := made(t, 5, 20+seed)
		m := &model{blocks: 5, words: 20 + seed, slots: map[int]*slot{}}
		x := uint64(seed)
		next := func(below int) int {
			x = x*6364136223846793005 + 1442695040888963407
			return int(x>>33) % below
		}
		done := map[int]int{} // how often each thing succeeded
		for i := range 6000 {
			what, small := next(12), next(20)-2
			if next(3) > 0 {
				small = next(4)
			}
			a, v := next(5*m.words+3)-1, next(5*m.words+3)-1
			s := m.state()
			if l := [][]int{nil, s.hands, s.objects}[next(3)]; len(l) > 0 { // else few are of use
				a = l[next(len(l))]
			}
			got, want := both(h, m, what, small, a, v)
			if got.n != want.n || got.ok != want.ok || got.e != want.e || !slices.Equal(got.l, want.l) {
				t.Fatalf("%d: %d of %d, %d, %d: %v; want %v", i, what, small, a, v, got, want)
			}
			if got.e == api.OK {
				done[what]++
			}
			if i%101 == 0 {
				agree(t, h, m)
			}
		}
		agree(t, h, m)
		for what := range 12 {
			if done[what] == 0 {
				t.Errorf("%d: nothing of the kind %d was done", seed, what)
			}
		}
	}
}
