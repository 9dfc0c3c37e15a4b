package note_test

import (
	"math"
	"slices"
	"testing"

	"dustpan/api"
	"dustpan/heap"
	"dustpan/log"
	"dustpan/note"
)

// parts is a noter, and what it has.
type parts struct {
	h *heap.Heap
	b *log.Buffer
	x *log.Box
	f *note.Flag
	n *note.Noter
	// l is the addresses of eight objects of the color 0, and behind them of one of the color 1.
	l []int
}

// made is a noter whose buffer has that room.
func made(t *testing.T, room int) *parts {
	t.Helper()
	c := api.Config{Blocks: 2, Words: 32, Muts: 1, Regs: 1, Log: room, Stack: 1}
	h, e := heap.New(c)
	if e != api.OK {
		t.Fatal("no heap:", e)
	}
	b, e := log.New(room)
	if e != api.OK {
		t.Fatal("no buffer:", e)
	}
	p := &parts{h: h, b: b, x: log.NewBox(), f: &note.Flag{}}
	for i := range 9 {
		a, e := h.Make(1, i/8)
		if e != api.OK {
			t.Fatal("no object:", e)
		}
		p.l = append(p.l, a)
	}
	if p.n, e = note.New(h, b, p.x, p.f); e != api.OK || p.n == nil {
		t.Fatalf("New: %v, %d", p.n, e)
	}
	return p
}

// logs adds addresses to the buffer.
func (p *parts) logs(t *testing.T, l ...int) {
	t.Helper()
	for _, a := range l {
		if !p.b.Add(a) {
			t.Fatalf("Add(%d) is refused", a)
		}
	}
}

// boxes has something handed over to the box, through a buffer beside the noter's.
func (p *parts) boxes(t *testing.T, l ...int) {
	t.Helper()
	b, _ := log.New(api.MaxLog)
	for _, a := range l {
		b.Add(a)
	}
	if !p.x.Hand(b) {
		t.Fatalf("%v isn't handed over", l)
	}
}

// unboxed takes all that is in the box.
func (p *parts) unboxed() []int {
	var l []int
	for a, ok := p.x.Next(); ok; a, ok = p.x.Next() {
		l = append(l, a)
	}
	return l
}

// colors is the colors of the nine objects.
func (p *parts) colors() []int {
	var l []int
	for _, a := range p.l {
		c, _ := p.h.Color(a)
		l = append(l, c)
	}
	return l
}

// painted looks at which of the first eight objects have the color 1.
func (p *parts) painted(t *testing.T, want ...int) {
	t.Helper()
	var l []int
	for _, a := range p.l[:8] {
		if c, _ := p.h.Color(a); c == 1 {
			l = append(l, a)
		}
	}
	if !slices.Equal(l, want) {
		t.Fatalf("painted: %v; want %v", l, want)
	}
}

// has looks at what the buffer has, how many the box has, and whether the flag is raised.
func (p *parts) has(t *testing.T, logged []int, boxed int, up bool) {
	t.Helper()
	if !slices.Equal(p.b.All(), logged) {
		t.Fatalf("logged: %v; want %v", p.b.All(), logged)
	}
	if p.x.Len() != boxed {
		t.Fatalf("a box has %d; want %d", p.x.Len(), boxed)
	}
	if p.f.Up() != up {
		t.Fatalf("Up: %v", p.f.Up())
	}
}

// next does one step, behind which there is another one.
func next(t *testing.T, s note.Step) note.Step {
	t.Helper()
	if s == nil {
		t.Fatal("no step")
	}
	if s = s(); s == nil {
		t.Fatal("that was the last step")
	}
	return s
}

// last does the last step.
func last(t *testing.T, s note.Step) {
	t.Helper()
	if s == nil {
		t.Fatal("no step")
	}
	if s() != nil {
		t.Fatal("that wasn't the last step")
	}
}

// takes does all steps, and counts them.
func takes(t *testing.T, s note.Step, want int) {
	t.Helper()
	if k, ok := note.Run(s, 1000); k != want || !ok {
		t.Fatalf("%d steps, %v; want %d", k, ok, want)
	}
}

// counted is a step that counts how often it was done.
func counted(n *int) note.Step {
	return note.Once(func() { *n++ })
}

func TestAFlag(t *testing.T) {
	f := &note.Flag{}
	if f.Up() || f.Lower() || f.Up() {
		t.Error("a new flag is raised")
	}
	for range 2 {
		f.Raise()
		f.Raise()
		if !f.Up() || !f.Up() {
			t.Error("raised, but not up")
		}
		if !f.Lower() {
			t.Error("Lower of a raised flag: false")
		}
		if f.Up() || f.Lower() {
			t.Error("lowered, but up")
		}
	}
}

func TestFlagsAreTheirOwn(t *testing.T) {
	f, g := &note.Flag{}, &note.Flag{}
	f.Raise()
	if g.Up() || g.Lower() || !f.Up() {
		t.Error("one flag for two")
	}
}

func TestANilFlag(t *testing.T) {
	var f *note.Flag
	f.Raise()
	if f.Up() || f.Lower() {
		t.Error("a nil flag is raised")
	}
}

func TestNewRefusesNil(t *testing.T) {
	p := made(t, 1)
	for i := range 15 {
		h, b, x, f := p.h, p.b, p.x, p.f
		if i&1 == 0 {
			h = nil
		}
		if i&2 == 0 {
			b = nil
		}
		if i&4 == 0 {
			x = nil
		}
		if i&8 == 0 {
			f = nil
		}
		if n, e := note.New(h, b, x, f); n != nil || e != api.ErrArg {
			t.Errorf("New(%v, %v, %v, %v): %v, %d", h != nil, b != nil, x != nil, f != nil, n, e)
		}
	}
}

func TestNewChangesNothing(t *testing.T) {
	p := made(t, 2)
	p.logs(t, p.l[0])
	p.boxes(t, p.l[1])
	p.f.Raise()
	if _, e := note.New(p.h, p.b, p.x, p.f); e != api.OK {
		t.Fatal("New:", e)
	}
	p.has(t, []int{p.l[0]}, 1, true)
	p.painted(t)
}

func TestTheExample(t *testing.T) {
	p := made(t, 2)
	takes(t, p.n.Note(p.l[0], 1, nil), 1)
	p.has(t, []int{p.l[0]}, 0, false)
	p.painted(t)
}

func TestNothingToNote(t *testing.T) {
	p := made(t, 1)
	p.logs(t, p.l[0])
	p.boxes(t, p.l[1])
	if p.n.Note(0, 1, nil) != nil {
		t.Error("0 takes a step")
	}
	n := 0
	takes(t, p.n.Note(0, 1, counted(&n)), 1)
	if n != 1 {
		t.Errorf("then was done %d times", n)
	}
	p.has(t, []int{p.l[0]}, 1, false)
}

func TestWhatHasTheColorIsntLogged(t *testing.T) {
	for _, room := range []int{1, 2} {
		p := made(t, room)
		p.logs(t, p.l[0])
		takes(t, p.n.Note(p.l[8], 1, nil), 1)
		takes(t, p.n.Note(p.l[1], 0, nil), 1)
		p.has(t, []int{p.l[0]}, 0, false)
		p.painted(t)
	}
}

func TestWhatIsNoObjectIsntLogged(t *testing.T) {
	for _, room := range []int{1, 2} {
		p := made(t, room)
		p.logs(t, p.l[0])
		hand, e := p.h.Take(0)
		if e != api.OK {
			t.Fatal("no slot in hand:", e)
		}
		free := p.h.Frees(0)[0]
		for _, v := range []int{hand, free, 2, -1, 63, 64, 65, math.MinInt, math.MaxInt, 1<<32 + p.l[1], -p.l[1]} {
			for color := range 2 {
				takes(t, p.n.Note(v, color, nil), 1)
				p.has(t, []int{p.l[0]}, 0, false)
			}
		}
	}
}

func TestNoted(t *testing.T) {
	p := made(t, 3)
	takes(t, p.n.Note(p.l[8], 0, nil), 1)
	takes(t, p.n.Note(p.l[3], 1, nil), 1)
	takes(t, p.n.Note(p.l[3], 1, nil), 1)
	p.has(t, []int{p.l[8], p.l[3], p.l[3]}, 0, false)
	p.painted(t)
}

func TestNotedByNoColorThereIs(t *testing.T) {
	for _, color := range []int{math.MinInt, -1, 2, 3, 256, math.MaxInt} {
		p := made(t, 2)
		takes(t, p.n.Note(p.l[0], color, nil), 1)
		takes(t, p.n.Note(p.l[8], color, nil), 1)
		p.has(t, []int{p.l[0], p.l[8]}, 0, false)
		p.boxes(t, p.l[1])
		takes(t, p.n.Pour(color, nil), 3)
		p.has(t, nil, 1, false)
		p.painted(t)
	}
}

func TestAFullBufferIsHandedOverFirst(t *testing.T) {
	p := made(t, 2)
	p.logs(t, p.l[0], p.l[1])
	s := p.n.Note(p.l[2], 1, nil)
	p.has(t, []int{p.l[0], p.l[1]}, 0, false)
	s = next(t, s)
	p.has(t, []int{p.l[0], p.l[1]}, 0, false)
	s = next(t, s)
	p.has(t, nil, 2, false)
	last(t, s)
	p.has(t, []int{p.l[2]}, 2, false)
	p.painted(t)
	if l := p.unboxed(); !slices.Equal(l, p.l[:2]) {
		t.Errorf("handed over: %v", l)
	}
}

func TestAFullBufferIsPaintedFirst(t *testing.T) {
	p := made(t, 3)
	p.logs(t, p.l[2], p.l[0], p.l[8])
	p.boxes(t, p.l[7])
	s := next(t, p.n.Note(p.l[3], 1, nil))
	p.has(t, []int{p.l[2], p.l[0], p.l[8]}, 1, false)
	s = next(t, s)
	p.has(t, []int{p.l[2], p.l[0], p.l[8]}, 1, false)
	p.painted(t)
	s = next(t, s)
	p.has(t, []int{p.l[0], p.l[8]}, 1, false)
	p.painted(t, p.l[2])
	s = next(t, s)
	p.has(t, []int{p.l[8]}, 1, false)
	p.painted(t, p.l[0], p.l[2])
	s = next(t, s)
	p.has(t, nil, 1, false)
	s = next(t, s)
	p.has(t, nil, 1, true)
	last(t, s)
	p.has(t, []int{p.l[3]}, 1, true)
	p.painted(t, p.l[0], p.l[2])
	if l := p.unboxed(); !slices.Equal(l, p.l[7:8]) {
		t.Errorf("in the box: %v", l)
	}
}

func TestPourOfNothing(t *testing.T) {
	p := made(t, 2)
	for i := range 2 {
		if p.n.Pour(1, nil) != nil {
			t.Error("an empty buffer takes a step")
		}
		n := 0
		takes(t, p.n.Pour(1, counted(&n)), 1)
		if n != 1 {
			t.Errorf("then was done %d times", n)
		}
		p.has(t, nil, i, false)
		if i == 0 {
			p.boxes(t, p.l[0])
		}
	}
}

func TestPourHandsOver(t *testing.T) {
	p := made(t, 3)
	p.logs(t, p.l[4], p.l[1])
	p.f.Raise()
	s := p.n.Pour(1, nil)
	p.has(t, []int{p.l[4], p.l[1]}, 0, true)
	last(t, s)
	p.has(t, nil, 2, true)
	p.painted(t)
	if l := p.unboxed(); !slices.Equal(l, []int{p.l[4], p.l[1]}) {
		t.Errorf("handed over: %v", l)
	}
}

func TestPourPaints(t *testing.T) {
	p := made(t, 4)
	p.logs(t, p.l[5], p.l[5])
	p.boxes(t, p.l[0], p.l[1])
	s := next(t, p.n.Pour(1, nil))
	p.has(t, []int{p.l[5], p.l[5]}, 2, false)
	p.painted(t)
	s = next(t, s)
	p.has(t, []int{p.l[5]}, 2, false)
	p.painted(t, p.l[5])
	s = next(t, s)
	p.has(t, nil, 2, false)
	last(t, s)
	p.has(t, nil, 2, true)
	p.painted(t, p.l[5])
}

func TestPourPaintsByTheOtherColor(t *testing.T) {
	p := made(t, 2)
	p.logs(t, p.l[8], p.l[0])
	p.boxes(t, p.l[1])
	takes(t, p.n.Pour(0, nil), 4)
	p.has(t, nil, 1, true)
	if l := p.colors(); slices.Contains(l, 1) {
		t.Errorf("colors: %v", l)
	}
}

func TestWhatHasTheColorRaisesNothing(t *testing.T) {
	p := made(t, 4)
	p.logs(t, p.l[8], p.l[8], 2, math.MaxInt)
	p.boxes(t, p.l[1])
	takes(t, p.n.Pour(1, nil), 5)
	p.has(t, nil, 1, false)
	p.painted(t)
}

func TestAFlagOnceRaisedStays(t *testing.T) {
	p := made(t, 2)
	p.boxes(t, p.l[7])
	p.f.Raise()
	p.logs(t, p.l[8])
	takes(t, p.n.Pour(1, nil), 2)
	p.has(t, nil, 1, true)
	p.logs(t, p.l[0])
	takes(t, p.n.Pour(1, nil), 3)
	p.has(t, nil, 1, true)
}

func TestOneOfSeveralRaisesTheFlag(t *testing.T) {
	for i := range 3 {
		p := made(t, 3)
		for k := range 3 {
			if k == i {
				p.logs(t, p.l[k])
			} else {
				p.logs(t, p.l[8])
			}
		}
		p.boxes(t, p.l[7])
		takes(t, p.n.Pour(1, nil), 5)
		p.has(t, nil, 1, true)
		p.painted(t, p.l[i])
	}
}

func TestThenComesBehindAll(t *testing.T) {
	p := made(t, 1)
	n := 0
	s := next(t, p.n.Note(p.l[0], 1, counted(&n)))
	last(t, s)
	takes(t, p.n.Note(p.l[1], 1, counted(&n)), 4)
	takes(t, p.n.Note(p.l[2], 1, counted(&n)), 6)
	takes(t, p.n.Note(p.l[2], 1, counted(&n)), 6)
	takes(t, p.n.Note(p.l[2], 1, counted(&n)), 2)
	takes(t, p.n.Pour(1, counted(&n)), 3)
	if n != 6 {
		t.Errorf("then was done %d times", n)
	}
}

func TestStepsLookWhenTheyAreDone(t *testing.T) {
	p := made(t, 1)
	s := p.n.Note(p.l[0], 1, nil)
	p.h.Paint(p.l[0], 1)
	last(t, s)
	p.has(t, nil, 0, false)
	s = p.n.Note(p.l[1], 1, nil)
	p.logs(t, p.l[2])
	s = next(t, s)
	p.boxes(t, p.l[3])
	s = next(t, s)
	p.h.Paint(p.l[2], 1)
	last(t, next(t, s))
	p.has(t, []int{p.l[1]}, 1, false)
}

func TestPourOfWhatIsGoneMeanwhile(t *testing.T) {
	p := made(t, 2)
	p.boxes(t, p.l[7])
	p.logs(t, p.l[0], p.l[1])
	s := p.n.Pour(1, nil)
	p.b.Clear()
	last(t, s)
	p.has(t, nil, 1, false)
	p.logs(t, p.l[0], p.l[1])
	s = next(t, p.n.Pour(1, nil))
	p.b.Clear()
	last(t, s)
	p.has(t, nil, 1, false)
	p.painted(t)
}

func TestANoteTakesFewSteps(t *testing.T) {
	for room := 1; room <= 8; room++ {
		p := made(t, room)
		p.logs(t, p.l[:room]...)
		p.boxes(t, p.l[7])
		n := 0
		takes(t, p.n.Note(p.l[7], 1, counted(&n)), 4+room+1)
		p.has(t, []int{p.l[7]}, 1, true)
	}
}

func TestANilNoter(t *testing.T) {
	var n *note.Noter
	for _, v := range []int{0, 1, -1, math.MaxInt} {
		if n.Note(v, 1, nil) != nil || n.Pour(v, nil) != nil {
			t.Error("a nil noter has steps")
		}
		k := 0
		takes(t, n.Note(v, v, counted(&k)), 1)
		takes(t, n.Pour(v, counted(&k)), 1)
		if k != 2 {
			t.Errorf("then was done %d times", k)
		}
	}
}

// chain is so many steps, each of which counts.
func chain(most int, n *int) note.Step {
	if most == 0 {
		return nil
	}
	return func() note.Step {
		*n++
		return chain(most-1, n)
	}
}

func TestRun(t *testing.T) {
	for length := range 5 {
		for _, most := range []int{math.MinInt, -1, 0, 1, 2, 3, 4, 5, 100, math.MaxInt} {
			want := min(length, max(most, 0))
			n := 0
			k, ok := note.Run(chain(length, &n), most)
			if k != want || n != want || ok != (want == length) {
				t.Errorf("Run of %d, at most %d: %d (did %d), %v", length, most, k, n, ok)
			}
		}
	}
}

func TestRunOfStepsWithoutAnEnd(t *testing.T) {
	n := 0
	var again note.Step
	again = func() note.Step {
		n++
		return again
	}
	if k, ok := note.Run(again, 1000); k != 1000 || ok || n != 1000 {
		t.Errorf("Run: %d (did %d), %v", k, n, ok)
	}
}

func TestOnce(t *testing.T) {
	n := 0
	s := counted(&n)
	if s == nil || n != 0 {
		t.Fatalf("Once did it %d times", n)
	}
	last(t, s)
	if n != 1 {
		t.Errorf("a step did it %d times", n)
	}
	takes(t, note.Once(nil), 1)
}
