package config_test

import (
	"math"
	"math/big"
	"testing"

	"dustpan/api"
	"dustpan/config"
)

// field is one of a config's numbers, with its limits as the document writes them.
type field struct {
	name        string
	least, most int
	of          func(c *api.Config) *int
}

func fields() []field {
	return []field{
		{"Blocks", 1, 4096, func(c *api.Config) *int { return &c.Blocks }},
		{"Words", 16, 256, func(c *api.Config) *int { return &c.Words }},
		{"Muts", 1, 8, func(c *api.Config) *int { return &c.Muts }},
		{"Regs", 1, 64, func(c *api.Config) *int { return &c.Regs }},
		{"Cells", 0, 64, func(c *api.Config) *int { return &c.Cells }},
		{"Log", 1, 256, func(c *api.Config) *int { return &c.Log }},
		{"Stack", 1, 4096, func(c *api.Config) *int { return &c.Stack }},
	}
}

var (
	small  = api.Config{Blocks: 4, Words: 32, Muts: 2, Regs: 4, Cells: 2, Log: 4, Stack: 8}
	odd    = api.Config{Blocks: 3, Words: 17, Muts: 3, Regs: 5, Cells: 1, Log: 7, Stack: 2}
	least  = api.Config{Blocks: 1, Words: 16, Muts: 1, Regs: 1, Cells: 0, Log: 1, Stack: 1}
	widest = api.Config{Blocks: 4096, Words: 256, Muts: 8, Regs: 64, Cells: 64, Log: 256, Stack: 4096}
)

// bounds is all bounds of a config.
func bounds(c api.Config) [4]int {
	return [4]int{config.Words(c), config.Slots(c), config.OpPicks(c), config.AnswerPicks(c)}
}

func TestRightAndClampAtEachLimit(t *testing.T) {
	for _, f := range fields() {
		for _, c := range []struct{ n, near int }{
			{f.least, f.least}, {f.least + 1, f.least + 1}, {f.most - 1, f.most - 1}, {f.most, f.most},
			{f.least - 1, f.least}, {-f.most, f.least}, {math.MinInt, f.least}, {f.most + 1, f.most}, {math.MaxInt, f.most},
		} {
			given, near := small, small
			*f.of(&given), *f.of(&near) = c.n, c.near
			if config.Right(given) != (c.n == c.near) {
				t.Errorf("%s %d: Right is %v", f.name, c.n, config.Right(given))
			}
			if got := config.Clamp(given); got != near {
				t.Errorf("%s %d: Clamp is %v", f.name, c.n, got)
			}
		}
	}
}

func TestClampOfAllNumbersAtOnce(t *testing.T) {
	low, high := api.Config{}, api.Config{}
	for _, f := range fields() {
		*f.of(&low), *f.of(&high) = math.MinInt, math.MaxInt
	}
	if got := config.Clamp(low); got != least || !config.Right(got) {
		t.Error("all too low:", got)
	}
	if got := config.Clamp(high); got != widest || !config.Right(got) {
		t.Error("all too high:", got)
	}
	if got := config.Clamp(api.Config{}); got != least {
		t.Error("the zero one:", got)
	}
}

func TestBounds(t *testing.T) {
	for _, c := range []struct {
		of   api.Config
		want [4]int
	}{
		{small, [4]int{128, 64, 112, 80}},
		{odd, [4]int{51, 24, 109, 119}}, // 8 slots a block: half of 17 without rest
		{least, [4]int{16, 8, 84, 29}},
		{widest, [4]int{1 << 20, 1 << 19, 64 + 1024 + 256, 16 + 64*264 + 1024}},
		{api.Config{Blocks: 2, Words: 16, Muts: 1, Regs: 1, Cells: 0, Log: 1, Stack: 1}, [4]int{32, 16, 84, 29}},
	} {
		if got := bounds(c.of); got != c.want {
			t.Errorf("%v: %v; want %v", c.of, got, c.want)
		}
	}
}

// TestBoundsHangOn tells, of each number, which bounds it changes: of the stack and the mutators none of the four.
func TestBoundsHangOn(t *testing.T) {
	for name, want := range map[string][4]bool{
		"Blocks": {true, true, false, false},
		"Words":  {true, true, true, false},
		"Muts":   {},
		"Regs":   {false, false, false, true},
		"Cells":  {},
		"Log":    {false, false, true, true},
		"Stack":  {},
	} {
		for _, f := range fields() {
			if f.name != name {
				continue
			}
			more := small
			*f.of(&more) += 2
			a, b := bounds(small), bounds(more)
			for i := range want {
				if (a[i] != b[i]) != want[i] {
					t.Errorf("%s, bound %d: %d, %d", name, i, a[i], b[i])
				}
			}
		}
	}
}

func TestBoundsOfWhatIsNotRight(t *testing.T) {
	for _, f := range fields() {
		for _, n := range []int{math.MinInt, f.least - 1, f.most + 1, math.MaxInt} {
			c := small
			*f.of(&c) = n
			if got := bounds(c); got != [4]int{} {
				t.Errorf("%s %d: %v", f.name, n, got)
			}
			for _, k := range []int{1, 3, math.MaxInt} {
				if config.Marking(c, k) != 0 || config.Cycle(c, k) != 0 {
					t.Errorf("%s %d, k %d: %d, %d", f.name, n, k, config.Marking(c, k), config.Cycle(c, k))
				}
			}
		}
	}
}

// once is what marking, and what a cycle, takes with a k of 1, by numbers without a bound.
func once(c api.Config) (*big.Int, *big.Int) {
	n := big.NewInt(int64(c.Blocks * (c.Words / 2)))
	op := int64(64 + 4*c.Log + c.Words)
	answer := int64(16 + c.Regs*(c.Log+8) + 4*c.Log)
	first := new(big.Int).Add(new(big.Int).Mul(big.NewInt(2), n), big.NewInt(6))
	second := new(big.Int).Mul(big.NewInt(40), n)
	second.Add(second, big.NewInt(int64(2*c.Muts*(c.Log+4)+2*c.Cells)+op+answer+40))
	marking := new(big.Int).Mul(first, second)
	rest := int64(2*c.Blocks*(c.Words+8)+4*c.Muts+60) + 3*op + 2*answer
	return marking, new(big.Int).Add(marking, big.NewInt(rest))
}

// bounded is k times n, at most 2^62.
func bounded(n *big.Int, k int) int {
	product := new(big.Int).Mul(n, big.NewInt(int64(k)))
	if product.Cmp(big.NewInt(1<<62)) > 0 {
		return 1 << 62
	}
	return int(product.Int64())
}

func TestMarkingAndCycle(t *testing.T) {
	configs := []api.Config{small, odd, least, widest}
	for _, f := range fields() {
		c := odd
		*f.of(&c) += 3
		configs = append(configs, c)
	}
	for _, c := range configs {
		marking, cycle := once(c)
		ks := []int{1, 2, 3, 1000, 1 << 31, 1 << 61, 1 << 62, math.MaxInt}
		for _, n := range []*big.Int{marking, cycle} {
			last := int(new(big.Int).Div(big.NewInt(1<<62), n).Int64()) // the greatest k that stays within 2^62
			ks = append(ks, last-1, last, last+1, 2*last, 4*last+1)
		}
		for _, k := range ks {
			if got, want := config.Marking(c, k), bounded(marking, k); got != want {
				t.Errorf("Marking(%v, %d): %d; want %d", c, k, got, want)
			}
			if got, want := config.Cycle(c, k), bounded(cycle, k); got != want {
				t.Errorf("Cycle(%v, %d): %d; want %d", c, k, got, want)
			}
		}
		for _, k := range []int{0, -1, -1000, math.MinInt} {
			if config.Marking(c, k) != 0 || config.Cycle(c, k) != 0 {
				t.Errorf("%v, k %d: %d, %d", c, k, config.Marking(c, k), config.Cycle(c, k))
			}
		}
	}
}

// TestMarkingInNumbers holds the bounds against numbers that were worked out by hand.
func TestMarkingInNumbers(t *testing.T) {
	if got := config.Marking(small, 1); got != 134*2828 {
		t.Error("Marking:", got)
	}
	if got := config.Cycle(small, 1); got != 134*2828+884 {
		t.Error("Cycle:", got)
	}
	if got := config.Marking(least, 2); got != 2*22*(320+10+0+84+29+40) {
		t.Error("Marking of the least one:", got)
	}
}
