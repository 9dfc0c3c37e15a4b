package fair_test

import (
	"math"
	"slices"
	"testing"

	"dustpan/api"
	"dustpan/config"
	"dustpan/fair"
	"dustpan/guess"
	"dustpan/op"
	"dustpan/world"
)

// numbers is n numbers by a rule, below most.
func numbers(roll guess.Rule, n, most int) []uint16 {
	l := make([]uint16, n)
	for i := range l {
		l[i] = uint16(roll(most))
	}
	return l
}

func TestSpread(t *testing.T) {
	for _, x := range []struct {
		raw        []uint16
		who, block int
		want       []int
	}{
		{nil, 1, 1, nil},
		{[]uint16{9}, 1, 1, []int{0}},
		{[]uint16{9, 8, 7}, 1, 1, []int{0, 0, 0}},
		{[]uint16{9, 8, 7}, 1, 2, []int{0, 0}}, // what is left is let go
		{[]uint16{9, 8, 7}, 1, 4, nil},
		{[]uint16{1, 2, 3}, 3, 3, []int{0, 1, 2}},
		{[]uint16{3, 2, 1}, 3, 3, []int{2, 1, 0}},
		{[]uint16{2, 3, 1}, 3, 3, []int{2, 0, 1}}, // the i-th number stands for i
		{[]uint16{3, 1, 2}, 3, 3, []int{1, 2, 0}},
		{[]uint16{0, 0, 0}, 3, 3, []int{0, 1, 2}}, // of two alike ones the lesser i first
		{[]uint16{1, 0, 1, 0}, 4, 4, []int{1, 3, 0, 2}},
		{[]uint16{65535, 0, 65534, 32768, 32767}, 5, 5, []int{1, 4, 3, 2, 0}},
		{[]uint16{0, 0, 0, 1, 2, 3, 65535}, 2, 7, []int{0, 1, 0, 1, 0, 1, 1}},
		{[]uint16{2, 1, 7, 1, 2, 8, 5, 5, 9}, 2, 3, []int{1, 0, 1, 0, 1, 0, 0, 1, 1}},
		{[]uint16{2, 1, 7, 1, 2, 8, 5, 5}, 2, 3, []int{1, 0, 1, 0, 1, 0}},
	} {
		same(t, "Spread", fair.Spread(x.raw, x.who, x.block), x.want...)
	}
}

// There is none of a who not from 1 to 16, or a block below who, or above 1000.
func TestSpreadOfNone(t *testing.T) {
	raw := numbers(guess.By(1), 3000, 1<<16)
	most := func(who, block, want int) {
		t.Helper()
		if n := len(fair.Spread(raw, who, block)); n != want {
			t.Errorf("Spread(%d, %d): %d picks; want %d", who, block, n, want)
		}
	}
	for _, block := range []int{math.MinInt, -1, 0, 1, 15, 16, 17, 18, 1000, 1001, math.MaxInt} {
		for _, who := range []int{math.MinInt, -17, -1, 0, 17, 18, 1000, math.MaxInt} {
			most(who, block, 0)
		}
	}
	for who := 1; who <= 16; who++ {
		for _, block := range []int{math.MinInt, -who, -1, 0, who - 1, 1001, 1002, 1 << 32, math.MaxInt} {
			most(who, block, 0)
		}
		most(who, who, 3000/who*who)
		most(who, who+1, 3000/(who+1)*(who+1))
		most(who, 999, 2997)
		most(who, 1000, 3000)
	}
}

// What is handed in is neither changed nor kept.
func TestSpreadSharesNothing(t *testing.T) {
	room := []uint16{4, 3, 9, 1, 2, 8, 7}
	raw := room[:6]
	l := fair.Spread(raw, 2, 3)
	if !slices.Equal(room, []uint16{4, 3, 9, 1, 2, 8, 7}) {
		t.Error("changed:", room)
	}
	clear(room)
	same(t, "Spread", l, 1, 0, 1, 0, 1, 0)
	again := fair.Spread(raw, 2, 3)
	l[0] = 9
	same(t, "Spread of others", again, 0, 1, 0, 0, 1, 0)
}

// Each block begins with each of all once, as their numbers rise, and goes on by what is left of the others.
func TestSpreadBlocks(t *testing.T) {
	for seed := range uint64(500) {
		roll := guess.By(seed)
		who := 1 + roll(16)
		block := who + roll(40)
		raw := numbers(roll, roll(20*block), 1+roll(1<<16))
		l := fair.Spread(raw, who, block)
		if len(l) != len(raw)/block*block {
			t.Fatalf("of %d numbers, by %d: %d picks", len(raw), block, len(l))
		}
		for at := 0; at < len(l); at += block {
			in, out := raw[at:at+block], l[at:at+block]
			for i, one := range out {
				switch {
				case i >= who && one != int(in[i])%who:
					t.Fatalf("of %d, by %d: the pick %d of %v: %v", who, block, i, in, out)
				case i < who && fair.Count(out[:who], i) != 1:
					t.Fatalf("of %d, by %d: %d isn't there once: %v: %v", who, block, i, in, out)
				case i > 0 && i < who && (in[out[i-1]] > in[one] || in[out[i-1]] == in[one] && out[i-1] > one):
					t.Fatalf("of %d, by %d: they don't rise: %v: %v", who, block, in, out)
				}
			}
		}
	}
}

// What is spread is fair by twice the block, less one, and at times by no less.
func TestSpreadIsFair(t *testing.T) {
	just := 0
	for seed := range uint64(2000) {
		roll := guess.By(seed + 7000)
		who := 1 + roll(16)
		block := who + roll(30)*roll(2)
		l := fair.Spread(numbers(roll, 12*block+roll(block), 1+roll(1<<16)), who, block)
		if !fair.Fair(l, who, 2*block-1) || fair.Gap(l, who) > 2*block-1 {
			t.Fatalf("of %d, by %d: the gap %d", who, block, fair.Gap(l, who))
		}
		if fair.Gap(l, who) == 2*block-1 {
			just++
		}
	}
	if just < 100 {
		t.Error("just so fair were only", just)
	}
}

// With picks that are spread marking ends, and a cycle, within their bounds, as these are fair.
func TestSpreadPicks(t *testing.T) {
	var program []api.Op
	for range 60 {
		for _, line := range []string{"alloc 0 2", "store 0 0 1", "set 0 0", "move 1 0", "get 0 0", "load 1 0 0"} {
			o, _ := op.Parse(line)
			program = append(program, o)
		}
	}
	ended := 0
	for seed := range uint64(40) {
		roll := guess.By(seed)
		c := config.Clamp(api.Config{Blocks: 1 + roll(4), Muts: 1 + roll(8), Regs: 2, Cells: 1, Log: 1 + roll(3), Stack: 1 + roll(3)})
		who := c.Muts + 1 + roll(2) // whether wishes are among them, or not
		block := who + roll(30)
		k := 2*block - 1
		w, _ := world.New(c, slices.Repeat([][]api.Op{program}, c.Muts)...)
		w.Pick(c.Muts + 1)
		w.Run(fair.Spread(numbers(roll, 20000, 1<<16), who, block)...)
		began := 0
		for _, e := range w.Events() {
			switch {
			case e.Kind == api.Start:
				began = e.Pick
			case e.Kind == api.Marked && e.Pick-began > config.Marking(c, k), e.Kind == api.Rested && e.Pick-began > config.Cycle(c, k):
				t.Errorf("%v, fair by %d: began at %d, %v", c, k, began, e)
			case e.Kind == api.Rested:
				ended++
			}
		}
		for id := range c.Muts {
			if o, a := w.Mut(id).Most(); o > config.OpPicks(c) || a > config.AnswerPicks(c) {
				t.Errorf("%v: Most: %d, %d", c, o, a)
			}
		}
	}
	if ended < 40 {
		t.Error("only so many cycles ended:", ended)
	}
}
