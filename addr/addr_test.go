package addr_test

import (
	"math"
	"slices"
	"testing"

	"dustpan/addr"
	"dustpan/api"
)

// two is the document's example: 2 blocks of 20 words.
func two() api.Config {
	return sized(2, 20)
}

// sized is a config of so many blocks of so many words.
func sized(blocks, words int) api.Config {
	return api.Config{Blocks: blocks, Words: words, Muts: 1, Regs: 1, Cells: 0, Log: 1, Stack: 1}
}

// sizes are the words of each class's slots, as the document writes them.
func sizes() []int {
	return []int{2, 4, 8, 16}
}

// some are configs of which every address is looked at: the least one, words that no class parts, and many blocks.
func some() []api.Config {
	return []api.Config{sized(1, 16), two(), sized(3, 17), sized(3, 21), sized(5, 31), sized(2, 255), sized(2, 256), sized(40, 23)}
}

// wrong are configs that aren't right, each by one number.
func wrong() []api.Config {
	var l []api.Config
	for _, set := range []func(c *api.Config){
		func(c *api.Config) { c.Blocks = 0 },
		func(c *api.Config) { c.Blocks = -2 },
		func(c *api.Config) { c.Blocks = api.MaxBlocks + 1 },
		func(c *api.Config) { c.Words = 0 },
		func(c *api.Config) { c.Words = api.MinWords - 1 },
		func(c *api.Config) { c.Words = api.MaxWords + 1 },
		func(c *api.Config) { c.Words = math.MaxInt },
		func(c *api.Config) { c.Muts = 0 },
		func(c *api.Config) { c.Muts = api.MaxMuts + 1 },
		func(c *api.Config) { c.Regs = 0 },
		func(c *api.Config) { c.Regs = api.MaxRegs + 1 },
		func(c *api.Config) { c.Cells = -1 },
		func(c *api.Config) { c.Cells = api.MaxCells + 1 },
		func(c *api.Config) { c.Log = 0 },
		func(c *api.Config) { c.Log = api.MaxLog + 1 },
		func(c *api.Config) { c.Stack = 0 },
		func(c *api.Config) { c.Stack = api.MaxStack + 1 },
	} {
		c := two()
		set(&c)
		l = append(l, c)
	}
	return append(l, api.Config{})
}

// absent asks all calls for a slot that isn't there.
func absent(t *testing.T, c api.Config, k, block, slot int) {
	t.Helper()
	for _, word := range []int{0, 1} {
		if a, ok := addr.Of(c, k, addr.Place{Block: block, Slot: slot, Word: word}); ok || a != 0 {
			t.Errorf("%v: Of(%d, %d %d %d): %d, %v", c, k, block, slot, word, a, ok)
		}
	}
	if a := addr.Slot(c, k, block, slot); a != 0 {
		t.Errorf("%v: Slot(%d, %d, %d): %d", c, k, block, slot, a)
	}
}

// nowhere asks for the place of an address that has none.
func nowhere(t *testing.T, c api.Config, k, a int) {
	t.Helper()
	if p, ok := addr.Find(c, k, a); ok || p != (addr.Place{}) {
		t.Errorf("%v: Find(%d, %d): %v, %v", c, k, a, p, ok)
	}
}

func TestOfInNumbers(t *testing.T) {
	for _, x := range []struct {
		c    api.Config
		k    int
		p    addr.Place
		want int
	}{
		{two(), 2, addr.Place{Block: 1, Slot: 1, Word: 3}, 32},
		{two(), 2, addr.Place{}, 1},
		{two(), 2, addr.Place{Word: 7}, 8},
		{two(), 2, addr.Place{Slot: 1, Word: 7}, 16},
		{two(), 2, addr.Place{Block: 1}, 21},
		{two(), 0, addr.Place{Slot: 9, Word: 1}, 20},
		{two(), 3, addr.Place{Block: 1, Word: 15}, 36},
		{sized(4096, 256), 3, addr.Place{Block: 4095, Slot: 15, Word: 15}, 1 << 20},
	} {
		if a, ok := addr.Of(x.c, x.k, x.p); !ok || a != x.want {
			t.Errorf("%v: Of(%d, %v): %d, %v; want %d", x.c, x.k, x.p, a, ok, x.want)
		}
		if p, ok := addr.Find(x.c, x.k, x.want); !ok || p != x.p {
			t.Errorf("%v: Find(%d, %d): %v, %v; want %v", x.c, x.k, x.want, p, ok, x.p)
		}
	}
}

func TestOfNoPlace(t *testing.T) {
	most := []int{10, 5, 2, 1} // slots of a block of 20 words
	for k, size := range sizes() {
		for _, block := range []int{math.MinInt, -1, 2, 3, math.MaxInt} {
			for slot := range most[k] {
				absent(t, two(), k, block, slot)
			}
		}
		for _, slot := range []int{math.MinInt, -1, most[k], most[k] + 1, 20, math.MaxInt} {
			absent(t, two(), k, 0, slot)
			absent(t, two(), k, 1, slot)
		}
		for _, word := range []int{math.MinInt, -1, size, size + 1, math.MaxInt} {
			for _, p := range []addr.Place{{Word: word}, {Block: 1, Word: word}, {Slot: most[k] - 1, Word: word}} {
				if a, ok := addr.Of(two(), k, p); ok || a != 0 {
					t.Errorf("Of(%d, %v): %d, %v", k, p, a, ok)
				}
			}
		}
	}
}

func TestNoClass(t *testing.T) {
	for _, k := range []int{math.MinInt, -1, 4, 5, math.MaxInt} {
		for block := range 2 {
			absent(t, two(), k, block, 0)
			absent(t, two(), k, block, 1)
			if l := addr.Slots(two(), k, block); len(l) != 0 {
				t.Errorf("Slots(%d, %d): %v", k, block, l)
			}
		}
		for a := -1; a <= 41; a++ {
			nowhere(t, two(), k, a)
		}
	}
}

func TestFindOfNoAddress(t *testing.T) {
	for k := range sizes() {
		for _, a := range []int{math.MinInt, -20, -1, 0, 41, 42, 1 << 20, math.MaxInt} {
			nowhere(t, two(), k, a)
		}
	}
}

func TestFindOfABlocksLastWords(t *testing.T) {
	for a := 17; a <= 20; a++ { // the document's 18 among them
		nowhere(t, two(), 2, a)
		nowhere(t, two(), 2, a+20)
		nowhere(t, two(), 3, a)
		nowhere(t, two(), 3, a+20)
	}
	nowhere(t, sized(3, 17), 0, 17)
	nowhere(t, sized(3, 17), 0, 51)
}

func TestBlockOfEveryAddress(t *testing.T) {
	for _, c := range some() {
		a := 1
		for block := range c.Blocks {
			for range c.Words {
				if b, ok := addr.Block(c, a); !ok || b != block {
					t.Fatalf("%v: Block(%d): %d, %v; want %d", c, a, b, ok, block)
				}
				a++
			}
		}
		for _, no := range []int{math.MinInt, -c.Words, -1, 0, a, a + 1, a + c.Words, math.MaxInt} {
			if b, ok := addr.Block(c, no); ok || b != 0 {
				t.Errorf("%v: Block(%d): %d, %v", c, no, b, ok)
			}
		}
	}
	great := sized(4096, 256)
	if b, ok := addr.Block(great, 1<<20); !ok || b != 4095 {
		t.Error("the last address:", b, ok)
	}
	if b, ok := addr.Block(great, 1<<20+1); ok || b != 0 {
		t.Error("behind the last address:", b, ok)
	}
}

func TestSlotAndSlotsInNumbers(t *testing.T) {
	for _, x := range []struct {
		k, block int
		want     []int
	}{
		{0, 0, []int{1, 3, 5, 7, 9, 11, 13, 15, 17, 19}},
		{0, 1, []int{21, 23, 25, 27, 29, 31, 33, 35, 37, 39}},
		{1, 0, []int{1, 5, 9, 13, 17}},
		{1, 1, []int{21, 25, 29, 33, 37}},
		{2, 0, []int{1, 9}},
		{2, 1, []int{21, 29}},
		{3, 0, []int{1}},
		{3, 1, []int{21}},
	} {
		if l := addr.Slots(two(), x.k, x.block); !slices.Equal(l, x.want) {
			t.Errorf("Slots(%d, %d): %v; want %v", x.k, x.block, l, x.want)
		}
		for slot, want := range x.want {
			if a := addr.Slot(two(), x.k, x.block, slot); a != want {
				t.Errorf("Slot(%d, %d, %d): %d; want %d", x.k, x.block, slot, a, want)
			}
		}
		absent(t, two(), x.k, x.block, len(x.want))
	}
}

func TestSlotsOfNoBlock(t *testing.T) {
	for k := range sizes() {
		for _, block := range []int{math.MinInt, -1, 2, 3, math.MaxInt} {
			if l := addr.Slots(two(), k, block); len(l) != 0 {
				t.Errorf("Slots(%d, %d): %v", k, block, l)
			}
		}
	}
}

func TestSlotsAreNewMemory(t *testing.T) {
	first := addr.Slots(two(), 2, 1)
	clear(first[:cap(first)])
	if l := addr.Slots(two(), 2, 1); !slices.Equal(l, []int{21, 29}) {
		t.Error("what was answered changes what is answered later:", l)
	}
}

func TestConfigsThatAreNotRight(t *testing.T) {
	for _, c := range wrong() {
		for k := range sizes() {
			for _, slot := range []int{0, 1, 2} {
				absent(t, c, k, 0, slot)
				absent(t, c, k, 1, slot)
			}
			if l := addr.Slots(c, k, 0); len(l) != 0 {
				t.Errorf("%v: Slots(%d, 0): %v", c, k, l)
			}
			for _, a := range []int{-1, 0, 1, 5, 21} {
				nowhere(t, c, k, a)
			}
		}
		for _, a := range []int{-1, 0, 1, 5, 21} {
			if b, ok := addr.Block(c, a); ok || b != 0 {
				t.Errorf("%v: Block(%d): %d, %v", c, a, b, ok)
			}
		}
	}
}

// TestPlacesAndAddressesAreEachOthers goes through all places of a config by the words that it counts itself,
// and then asks for the place of every address.
func TestPlacesAndAddressesAreEachOthers(t *testing.T) {
	for _, c := range some() {
		for k, size := range sizes() {
			places := map[int]addr.Place{}
			for block := range c.Blocks {
				var slots []int
				for slot := range c.Words / size {
					start := block*c.Words + slot*size + 1
					slots = append(slots, start)
					for word := range size {
						places[start+word] = addr.Place{Block: block, Slot: slot, Word: word}
					}
				}
				if l := addr.Slots(c, k, block); !slices.Equal(l, slots) {
					t.Fatalf("%v: Slots(%d, %d): %v; want %v", c, k, block, l, slots)
				}
			}
			eachOthers(t, c, k, places)
		}
	}
}

// eachOthers holds Of and Find against the places that the addresses of a config have.
func eachOthers(t *testing.T, c api.Config, k int, places map[int]addr.Place) {
	t.Helper()
	for a := 0; a <= c.Blocks*c.Words+1; a++ {
		want, has := places[a]
		if p, ok := addr.Find(c, k, a); ok != has || p != want {
			t.Fatalf("%v: Find(%d, %d): %v, %v; want %v, %v", c, k, a, p, ok, want, has)
		}
		if !has {
			continue
		}
		if got, ok := addr.Of(c, k, want); !ok || got != a {
			t.Fatalf("%v: Of(%d, %v): %d, %v; want %d", c, k, want, got, ok, a)
		}
		slot := a - want.Word
		if got := addr.Slot(c, k, want.Block, want.Slot); got != slot {
			t.Fatalf("%v: Slot(%d, %d, %d): %d; want %d", c, k, want.Block, want.Slot, got, slot)
		}
	}
}
