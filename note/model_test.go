package note_test

import (
	"slices"
	"testing"

	"dustpan/api"
	"dustpan/heap"
	"dustpan/log"
	"dustpan/note"
)

// model is what a noter has, as plain numbers: the colors of objects by their addresses, and what is where.
type model struct {
	colors map[int]int
	room   int
	logged []int
	boxed  []int
	up     bool
}

// pours is how many steps it takes to pour.
func (m *model) pours(color int) int {
	switch {
	case len(m.logged) == 0:
		return 0
	case len(m.boxed) == 0:
		m.boxed, m.logged = m.logged, nil
		return 1
	}
	steps, anew := 1+len(m.logged), false
	for _, a := range m.logged {
		if m.colors[a] != color {
			m.colors[a], anew = color, true
		}
	}
	m.logged = nil
	if anew {
		m.up = true
		steps++
	}
	return steps
}

// notes is how many steps it takes to note.
func (m *model) notes(v, color int) int {
	if v == 0 {
		return 0
	}
	is, ok := m.colors[v]
	if !ok || is == color {
		return 1
	}
	steps := 1
	if len(m.logged) == m.room {
		steps += m.pours(color) + 1
	}
	m.logged = append(m.logged, v)
	return steps
}

// modeled is a heap of some objects, a noter, and what they are.
func modeled(t *testing.T, room int) (*parts, *model) {
	t.Helper()
	p := &parts{x: log.NewBox(), f: &note.Flag{}}
	p.h, _ = heap.New(api.Config{Blocks: 4, Words: 16, Muts: 1, Regs: 1, Log: room, Stack: 1})
	p.b, _ = log.New(room)
	m := &model{colors: map[int]int{}, room: room}
	for i := range 10 {
		a, e := p.h.Make(i%4, i%2)
		if e != api.OK {
			t.Fatal("no object:", e)
		}
		p.l = append(p.l, a)
		m.colors[a] = i % 2
	}
	p.n, _ = note.New(p.h, p.b, p.x, p.f)
	return p, m
}

// same holds all that there is against the model.
func (p *parts) same(t *testing.T, m *model) {
	t.Helper()
	p.has(t, m.logged, len(m.boxed), m.up)
	for a, want := range m.colors {
		if c, e := p.h.Color(a); c != want || e != api.OK {
			t.Fatalf("the color of %d: %d, %d; want %d", a, c, e, want)
		}
	}
}

// takesBox takes what the box has, and holds it against the model.
func (p *parts) takesBox(t *testing.T, m *model) {
	t.Helper()
	if l := p.unboxed(); !slices.Equal(l, m.boxed) {
		t.Fatalf("in the box: %v; want %v", l, m.boxed)
	}
	m.boxed = nil
}

func TestAgainstAModel(t *testing.T) {
	seed := uint32(7)
	pick := func(n int) int {
		seed = seed*1664525 + 1013904223
		return int(seed>>16) % n
	}
	for round := range 60 {
		room := 1 + pick(5)
		p, m := modeled(t, room)
		for range 200 {
			color := pick(2)
			switch pick(12) {
			case 0:
				p.takesBox(t, m)
			case 1:
				takes(t, p.n.Pour(color, nil), m.pours(color))
			case 2:
				if p.f.Lower() != m.up {
					t.Fatal("Lower")
				}
				m.up = false
			case 3:
				v := p.l[pick(10)]
				p.h.Paint(v, color)
				m.colors[v] = color
			default:
				v := pick(66) - 1
				if pick(3) > 0 {
					v = p.l[pick(10)]
				}
				want := m.notes(v, color)
				if want > 4+room {
					t.Fatalf("round %d: %d steps", round, want)
				}
				takes(t, p.n.Note(v, color, nil), want)
			}
			p.same(t, m)
		}
	}
}
