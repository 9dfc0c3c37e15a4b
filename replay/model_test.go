package replay_test

import (
	"math"
	"slices"
	"testing"

	"dustpan/api"
	"dustpan/guess"
	"dustpan/op"
	"dustpan/world"
)

// some is as many programs as a config has mutators, each of n operations by a rule, those that are wrong among them.
func some(roll guess.Rule, c api.Config, n int) [][]api.Op {
	size := 1 + roll(4)
	l := make([][]api.Op, c.Muts)
	for m := range l {
		for range n {
			o := api.Op{Kind: 1 + roll(8), A: roll(c.Regs), B: roll(c.Regs), C: roll(c.Regs)}
			switch o.Kind {
			case api.Alloc:
				if o.B = size; roll(10) == 0 {
					o.B = roll(17)
				}
			case api.Load:
				o.C = roll(size+1) - roll(2)
			case api.Store:
				o.B = roll(size+1) - roll(2)
			case api.Get:
				o.B = roll(c.Cells + 1)
			case api.Set:
				o.A = roll(c.Cells + 1)
			}
			if roll(40) == 0 {
				o = api.Op{Kind: roll(11) - 1, A: roll(20) - 2, B: roll(20) - 2, C: roll(20) - 2}
			}
			l[m] = append(l[m], o)
		}
	}
	return l
}

// thing is an object, by the address that was told of it.
type thing struct {
	at     int
	fields []*thing
}

// address is what is told of a thing, or of none.
func (x *thing) address() int {
	if x == nil {
		return 0
	}
	return x.at
}

// plain is the chapter's words by things that point to each other: it knows what would be told, and does it only then.
type plain struct {
	config   api.Config
	programs [][]api.Op
	next     []int
	regs     [][]*thing
	cells    []*thing
	all      []*thing // as they were made
}

// plainOf is a plain one without events.
func plainOf(c api.Config, programs [][]api.Op) *plain {
	p := &plain{config: c, programs: programs, next: make([]int, c.Muts), cells: make([]*thing, c.Cells)}
	for range c.Muts {
		p.regs = append(p.regs, make([]*thing, c.Regs))
	}
	return p
}

// word is where the word is that an operation lays or reads, beside the register of a Load or Get; nil, if it has none.
func (p *plain) word(m int, o api.Op) (**thing, api.Errno) {
	field := func(x *thing, n int) (**thing, api.Errno) {
		switch {
		case x == nil:
			return nil, api.ErrNil
		case n < 0 || n >= len(x.fields):
			return nil, api.ErrField
		}
		return &x.fields[n], api.OK
	}
	if code := op.Check(p.config, o); code != api.OK {
		return nil, code
	}
	switch o.Kind {
	case api.Load:
		return field(p.regs[m][o.B], o.C)
	case api.Store:
		return field(p.regs[m][o.A], o.B)
	case api.Get:
		return &p.cells[o.B], api.OK
	case api.Set:
		return &p.cells[o.A], api.OK
	}
	return nil, api.OK
}

// right tells whether an event isn't wrong.
func (p *plain) right(e api.Event) bool {
	if e.Kind != api.Did {
		return true
	}
	if e.Who < 0 || e.Who >= p.config.Muts || e.Op != p.next[e.Who] || e.Op >= len(p.programs[e.Who]) {
		return false
	}
	o := p.programs[e.Who][e.Op]
	word, code := p.word(e.Who, o)
	switch {
	case e.Code == api.ErrMemory:
		return o.Kind == api.Alloc && code == api.OK && e.Value == 0
	case e.Code != code:
		return false
	case code != api.OK:
		return e.Value == 0
	case o.Kind == api.Alloc:
		return e.Value >= 1
	case o.Kind == api.Load || o.Kind == api.Get:
		return e.Value == (*word).address()
	case o.Kind == api.Move:
		return e.Value == p.regs[e.Who][o.B].address()
	}
	return e.Value == 0
}

// does does what an event tells that isn't wrong.
func (p *plain) does(e api.Event) {
	if e.Kind != api.Did {
		return
	}
	p.next[e.Who]++
	if e.Code != api.OK {
		return
	}
	o, regs := p.programs[e.Who][e.Op], p.regs[e.Who]
	word, _ := p.word(e.Who, o)
	switch o.Kind {
	case api.Alloc:
		regs[o.A] = &thing{at: e.Value, fields: make([]*thing, o.B)}
		p.all = append(p.all, regs[o.A])
	case api.Load, api.Get:
		regs[o.A] = *word
	case api.Store:
		*word = regs[o.C]
	case api.Set:
		*word = regs[o.B]
	case api.Drop:
		regs[o.A] = nil
	case api.Move:
		regs[o.A] = regs[o.B]
	}
}

// numbers is the numbers of things; 0 of none.
func (p *plain) numbers(l []*thing) []int {
	var out []int
	for _, x := range l {
		out = append(out, slices.Index(p.all, x)+1)
	}
	return out
}

// guess is an event by a rule, most of which are right, or wrong by little.
func (p *plain) guess(roll guess.Rule) api.Event {
	m := roll(p.config.Muts)
	e := did(m, p.next[m], 0)
	if e.Op < len(p.programs[m]) {
		word, code := p.word(m, p.programs[m][e.Op])
		if e.Code = code; code == api.OK {
			switch o := p.programs[m][e.Op]; o.Kind {
			case api.Alloc:
				e.Value = 1 + roll(30)
			case api.Load, api.Get:
				e.Value = (*word).address()
			case api.Move:
				e.Value = p.regs[m][o.B].address()
			}
		}
	}
	switch roll(16) {
	case 0:
		e.Who += roll(3) - 1
	case 1:
		e.Op += roll(3) - 1
	case 2:
		e.Value += roll(3) - 1
	case 3:
		e.Value = roll(30)
	case 4:
		e.Code = api.Errno(roll(16))
	case 5:
		e.Code, e.Value = api.ErrMemory, roll(8)/7
	case 6:
		e.Kind = roll(7)
	case 7:
		e.Who, e.Op, e.Value = wild(roll), wild(roll), wild(roll)
	case 8:
		e.Code = api.Errno(wild(roll))
	}
	return e
}

// wild is a number of those at which something might end.
func wild(roll guess.Rule) int {
	return []int{math.MinInt, math.MinInt + 1, -1 << 32, -1, 0, 1, 1 << 32, math.MaxInt - 1, math.MaxInt}[roll(9)]
}

// Whatever is guessed of programs is taken, or not, as the chapter says, and behind it all is as the chapter says.
func TestGuesses(t *testing.T) {
	took, refused := map[api.Errno]int{}, 0
	for seed := range uint64(300) {
		roll := guess.By(seed)
		c := guess.Config(roll)
		programs := some(roll, c, roll(60))
		r, p := made(t, c, programs...), plainOf(c, programs)
		for range 200 {
			e := p.guess(roll)
			want := p.right(e)
			if got := r.Take(e); got != want {
				t.Fatalf("%v, %v: Take(%v): %v", c, programs, e, got)
			}
			switch {
			case !want:
				refused++
			case e.Kind == api.Did:
				took[e.Code]++
				fallthrough
			default:
				p.does(e)
			}
		}
		g := r.Graph()
		var l []int
		for _, x := range p.all {
			l = append(l, x.at)
		}
		addresses(t, r, l...)
		n := 0
		for m, regs := range p.regs {
			n += p.next[m]
			for i, id := range p.numbers(regs) {
				if g.Reg(m, i) != id {
					t.Fatalf("the register %d of %d: %d; want %d", i, m, g.Reg(m, i), id)
				}
			}
		}
		for i, id := range p.numbers(p.cells) {
			if g.Cell(i) != id {
				t.Fatalf("the cell %d: %d; want %d", i, g.Cell(i), id)
			}
		}
		for i, x := range p.all {
			same(t, "the fields", g.Fields(i+1), p.numbers(x.fields)...)
		}
		counts(t, r, n)
		if g.Count() != len(p.all) {
			t.Fatal("objects:", g.Count(), len(p.all))
		}
	}
	if refused < 5000 || took[api.OK] < 5000 || took[api.ErrMemory] < 100 || took[api.ErrNil] < 500 || took[api.ErrField] < 200 || took[api.ErrCell] < 200 || took[api.ErrReg] < 100 || took[api.ErrArg] < 20 || took[api.ErrSize] < 10 {
		t.Error("too few came:", refused, took)
	}
}

// The events of a world are all right, and behind each pick it is the same, as words change by the picks that end operations.
func TestWorlds(t *testing.T) {
	told, again := map[int]int{}, 0
	for seed := range uint64(60) {
		roll := guess.By(seed + 400)
		c := guess.Config(roll)
		programs := some(roll, c, 300)
		w, e := world.New(c, programs...)
		if e != api.OK {
			t.Fatal("no world:", e)
		}
		r := made(t, c, programs...)
		seen, ops := 0, 0
		for _, who := range guess.Picks(roll, c, 2500) {
			w.Pick(who)
			l := w.Since(seen)
			if n, ok := r.All(l...); n != len(l) || !ok {
				t.Fatalf("%v: All(%v): %d, %v", c, l, n, ok)
			}
			seen += len(l)
			for _, e := range l {
				if told[e.Kind]++; e.Kind == api.Did {
					ops++
				}
			}
			if !r.Same(w) {
				t.Fatalf("%v: not the same behind the pick %d: %v", c, w.Picks()-1, l)
			}
		}
		counts(t, r, ops)
		once := replayed(t, w, programs...)
		is(t, "all at once", once, w, true)
		were := map[int]bool{}
		for id := range r.Graph().Count() {
			a := r.Address(id + 1)
			if once.Address(id+1) != a {
				t.Fatal("another address:", a)
			}
			if were[a] {
				again++
			}
			were[a] = true
		}
	}
	if told[api.Did] < 4000 || told[api.Rested] < 100 || told[api.Freed] < 300 || again < 200 {
		t.Error("too few came:", told, again)
	}
}

// A world's events of which one is another one are wrong there, but for the address of what is made, which may be any.
func TestChangedEvents(t *testing.T) {
	wrong := 0
	for seed := range uint64(40) {
		roll := guess.By(seed + 2000)
		c := guess.Config(roll)
		programs := some(roll, c, 100)
		w, e := world.New(c, programs...)
		if e != api.OK {
			t.Fatal("no world:", e)
		}
		w.Run(guess.Picks(roll, c, 1500)...)
		events := w.Events()
		for range 20 {
			if len(events) == 0 {
				break
			}
			at := roll(len(events))
			e := events[at]
			if e.Kind != api.Did {
				continue
			}
			l := slices.Clone(events)
			switch birth := programs[e.Who][e.Op].Kind == api.Alloc && e.Code == api.OK; roll(5) {
			case 0:
				l[at].Who = c.Muts + roll(3)
			case 1:
				l[at].Op += 1 + roll(3)
			case 2:
				if l[at].Value += 1 + roll(9); birth {
					l[at].Value = -roll(9)
				}
			case 3:
				if l[at].Code = e.Code + 1; birth || l[at].Code == api.ErrMemory {
					l[at].Code = api.ErrWord
				}
			case 4:
				l = slices.Insert(l, at, e)
				at++ // the second one is behind the first one
			}
			r := made(t, c, programs...)
			if n, ok := r.All(l...); n != at || ok {
				t.Fatalf("%v: All with %v in place of %v, at %d: %d, %v", c, l[at], e, at, n, ok)
			}
			wrong++
			if n, ok := r.All(events[at:]...); n != len(events)-at || !ok {
				t.Fatalf("%v: the others, from %d on: %d, %v", c, at, n, ok)
			}
		}
	}
	if wrong < 200 {
		t.Error("too few were wrong:", wrong)
	}
}
