package heap_test

import (
	"math"
	"slices"
	"testing"

	"dustpan/api"
	"dustpan/heap"
)

// sized is a config of so many blocks of so many words, and so many cells.
func sized(blocks, words, cells int) api.Config {
	return api.Config{Blocks: blocks, Words: words, Muts: 1, Regs: 1, Cells: cells, Log: 1, Stack: 1}
}

// made is a heap of so many blocks of so many words, of which the first ones are assigned to classes.
func made(t *testing.T, blocks, words int, classes ...int) *heap.Heap {
	t.Helper()
	h, e := heap.New(sized(blocks, words, 3))
	if e != api.OK || h == nil {
		t.Fatalf("New(%d, %d): %v, %d", blocks, words, h, e)
	}
	for _, k := range classes {
		if _, e := h.Assign(k); e != api.OK {
			t.Fatalf("Assign(%d): %d", k, e)
		}
	}
	return h
}

// four is a heap with one block of 20 words for each class, rising, whose slots are in hand, and one that isn't assigned.
func four(t *testing.T) *heap.Heap {
	t.Helper()
	return made(t, 5, 20, 0, 1, 2, 3)
}

// fours are the slots of four, of each class.
func fours() [4][]int {
	return [4][]int{{1, 3, 5, 7, 9, 11, 13, 15, 17, 19}, {21, 25, 29, 33, 37}, {41, 49}, {61}}
}

// all are all slots of four, rising.
func all() []int {
	f := fours()
	return slices.Concat(f[:]...)
}

// noSlots are addresses of four that are no slot's, but 0.
func noSlots() []int {
	return []int{
		math.MinInt, -1, // no address
		2, 20, 22, 24, 42, 50, 62, // within a slot
		57, 60, 77, 80, // a block's last words
		81, 83, 97, 100, // a block that isn't assigned
		101, 121, 1<<20 + 1, 1<<32 + 1, math.MaxInt,
	}
}

// noClasses are numbers that no class has.
func noClasses() []int {
	return []int{math.MinInt, -4, -1, 4, 5, 16, math.MaxInt}
}

// noColors are numbers that are no color.
func noColors() []int {
	return []int{math.MinInt, -2, -1, 2, 3, 1 << 32, math.MaxInt}
}

// noCounts are numbers that no class has room for.
func noCounts() []int {
	return []int{math.MinInt, -16, -1, 16, 17, 1 << 32, math.MaxInt}
}

// is holds an error against another one.
func is(t *testing.T, what string, got, want api.Errno) {
	t.Helper()
	if got != want {
		t.Errorf("%s: %d; want %d", what, got, want)
	}
}

// does has calls that succeed.
func does(t *testing.T, codes ...api.Errno) {
	t.Helper()
	for i, e := range codes {
		if e != api.OK {
			t.Fatalf("call %d: %d", i, e)
		}
	}
}

// takes takes a class's first slot, which is that one.
func takes(t *testing.T, h *heap.Heap, k, want int) {
	t.Helper()
	if a, e := h.Take(k); e != api.OK || a != want {
		t.Fatalf("Take(%d): %d, %d; want %d", k, a, e, want)
	}
}

// makes makes an object, at that address.
func makes(t *testing.T, h *heap.Heap, fields, color, want int) {
	t.Helper()
	if a, e := h.Make(fields, color); e != api.OK || a != want {
		t.Fatalf("Make(%d, %d): %d, %d; want %d", fields, color, a, e, want)
	}
}

// bears makes a slot in hand an object.
func bears(t *testing.T, h *heap.Heap, a, fields, color int) {
	t.Helper()
	does(t, h.Begin(a, fields), h.Bear(a, color))
}

// state is what a heap's slots are.
type state struct {
	objects []int
	frees   [4][]int
	hands   []int
}

// now is what a heap's slots are.
func now(h *heap.Heap) state {
	s := state{objects: h.Objects(), hands: h.Hands()}
	for k := range s.frees {
		s.frees[k] = h.Frees(k)
	}
	return s
}

// holds looks at what a heap's slots are.
func holds(t *testing.T, h *heap.Heap, want state) {
	t.Helper()
	got := now(h)
	if !slices.Equal(got.objects, want.objects) {
		t.Errorf("Objects: %v; want %v", got.objects, want.objects)
	}
	for k, l := range want.frees {
		if !slices.Equal(got.frees[k], l) {
			t.Errorf("Frees(%d): %v; want %v", k, got.frees[k], l)
		}
	}
	if !slices.Equal(got.hands, want.hands) {
		t.Errorf("Hands: %v; want %v", got.hands, want.hands)
	}
	parted(t, h)
}

// parted looks at whether each slot of the blocks that are assigned is just one thing, and whether nothing else is any.
func parted(t *testing.T, h *heap.Heap) {
	t.Helper()
	things := map[int]int{}
	s := now(h)
	for _, l := range append(s.frees[:], s.objects, s.hands) {
		for _, a := range l {
			things[a]++
		}
	}
	table := h.Table()
	for a := range table.All() {
		if things[a] != 1 {
			t.Errorf("the slot %d is %d things", a, things[a])
		}
		delete(things, a)
	}
	if len(things) != 0 {
		t.Errorf("no slots, but things: %v", things)
	}
	for a := -1; a <= h.Config().Blocks*h.Config().Words+1; a++ {
		if h.Is(a) != slices.Contains(s.objects, a) {
			t.Errorf("Is(%d): %v", a, h.Is(a))
		}
	}
	for k, l := range s.frees {
		for _, a := range l {
			if _, of, ok := table.Owner(a); !ok || of != k {
				t.Errorf("%d is among the free ones of %d", a, k)
			}
		}
	}
}

// unchanged does something that is refused, and looks at whether that has changed anything.
func unchanged(t *testing.T, h *heap.Heap, do func()) {
	t.Helper()
	was, unassigned, told := now(h), h.Table().Unassigned(), words(h)
	do()
	holds(t, h, was)
	if l := h.Table().Unassigned(); !slices.Equal(l, unassigned) {
		t.Errorf("unassigned: %v; want %v", l, unassigned)
	}
	if l := words(h); !slices.Equal(l, told) {
		t.Errorf("words: %v; want %v", l, told)
	}
}

// words is all that a heap tells of fields, colors and cells, one by one.
func words(h *heap.Heap) []int {
	var l []int
	tell := func(v int, e api.Errno) { l = append(l, v, int(e)) }
	for a := range h.Config().Blocks*h.Config().Words + 1 {
		n, e := h.Fields(a)
		tell(n, e)
		for field := range n {
			tell(h.Load(a, field))
		}
		tell(h.Color(a))
	}
	for i := range h.Config().Cells {
		tell(h.Cell(i))
	}
	return l
}

func TestNewHasNothing(t *testing.T) {
	for _, c := range []api.Config{
		sized(1, 16, 0),
		sized(2, 17, 64),
		{Blocks: 3, Words: 256, Muts: 8, Regs: 64, Cells: 5, Log: 256, Stack: 4096},
	} {
		h, e := heap.New(c)
		if e != api.OK || h == nil {
			t.Fatalf("New(%v): %v, %d", c, h, e)
		}
		if h.Config() != c || h.Table().Config() != c || len(h.Table().Unassigned()) != c.Blocks {
			t.Errorf("New(%v): %v, %v", c, h.Config(), h.Table())
		}
		holds(t, h, state{})
		for i := range c.Cells {
			if v, e := h.Cell(i); v != 0 || e != api.OK {
				t.Errorf("Cell(%d): %d, %d", i, v, e)
			}
		}
	}
}

func TestNewRefuses(t *testing.T) {
	for _, c := range []api.Config{
		{},
		sized(0, 16, 0), sized(api.MaxBlocks+1, 16, 0), sized(-1, 16, 0),
		sized(1, 15, 0), sized(1, 257, 0), sized(1, 16, -1), sized(1, 16, 65),
		{Blocks: 1, Words: 16, Muts: 0, Regs: 1, Log: 1, Stack: 1},
		{Blocks: 1, Words: 16, Muts: 9, Regs: 1, Log: 1, Stack: 1},
		{Blocks: 1, Words: 16, Muts: 1, Regs: 65, Log: 1, Stack: 1},
		{Blocks: 1, Words: 16, Muts: 1, Regs: 1, Log: 0, Stack: 1},
		{Blocks: 1, Words: 16, Muts: 1, Regs: 1, Log: 1, Stack: 4097},
		sized(math.MaxInt, math.MaxInt, 0),
	} {
		if h, e := heap.New(c); h != nil || e != api.ErrArg {
			t.Errorf("New(%v): %v, %d", c, h, e)
		}
	}
}

func TestTheGreatestHeap(t *testing.T) {
	h := made(t, api.MaxBlocks, api.MaxWords)
	for b := range api.MaxBlocks {
		if l, e := h.Assign(3); e != api.OK || len(l) != 16 || l[0] != b*256+1 || l[15] != b*256+241 {
			t.Fatalf("Assign: %v, %d", l, e)
		}
	}
	last := 1<<20 - 15
	bears(t, h, last, 15, 1)
	does(t, h.Store(last, 14, 1<<20))
	is(t, "Store beyond", h.Store(last, 14, 1<<20+1), api.ErrRange)
	if v, e := h.Load(last, 14); v != 1<<20 || e != api.OK || !h.Is(last) {
		t.Errorf("Load: %d, %d", v, e)
	}
	if n := len(h.Hands()); n != api.MaxBlocks*16-1 {
		t.Errorf("%d in hand", n)
	}
	does(t, h.Free(last))
	if l := h.Frees(3); !slices.Equal(l, []int{last}) {
		t.Errorf("Frees: %v", l)
	}
}

func TestTableIsACopy(t *testing.T) {
	h := made(t, 3, 16, 2)
	table := h.Table()
	table.Assign(0)
	table.Assign(0)
	if l := h.Table().Unassigned(); !slices.Equal(l, []int{1, 2}) {
		t.Errorf("unassigned: %v", l)
	}
	if l, e := h.Assign(3); e != api.OK || !slices.Equal(l, []int{17}) {
		t.Errorf("Assign: %v, %d", l, e)
	}
	if k, ok := table.Class(1); k != 0 || !ok {
		t.Errorf("the copy has changed: %d, %v", k, ok)
	}
	if k, ok := h.Table().Class(1); k != 3 || !ok {
		t.Errorf("Class: %d, %v", k, ok)
	}
}

func TestAssign(t *testing.T) {
	h := made(t, 4, 20)
	for b, want := range [][]int{{1, 5, 9, 13, 17}, {21}, {41, 43, 45, 47, 49, 51, 53, 55, 57, 59}, {61, 69}} {
		k := []int{1, 3, 0, 2}[b]
		was := h.Hands()
		l, e := h.Assign(k)
		if e != api.OK || !slices.Equal(l, want) {
			t.Errorf("Assign(%d): %v, %d; want %v", k, l, e, want)
		}
		holds(t, h, state{hands: append(was, want...)})
		l[0] = 77 // it is new memory
		holds(t, h, state{hands: append(was, want...)})
	}
	unchanged(t, h, func() {
		for k := range 4 {
			if l, e := h.Assign(k); l != nil || e != api.ErrMemory {
				t.Errorf("Assign(%d), of none: %v, %d", k, l, e)
			}
		}
	})
}

func TestAssignOfNoClass(t *testing.T) {
	for _, h := range []*heap.Heap{made(t, 1, 16), made(t, 1, 16, 0)} {
		unchanged(t, h, func() {
			for _, k := range noClasses() {
				if l, e := h.Assign(k); l != nil || e != api.ErrArg {
					t.Errorf("Assign(%d): %v, %d", k, l, e)
				}
			}
		})
	}
}

func TestPutAndTake(t *testing.T) {
	h := four(t)
	f := fours()
	does(t, h.Put(5), h.Put(61), h.Put(1), h.Put(25), h.Put(9))
	hands := func(but ...int) []int {
		return slices.DeleteFunc(all(), func(a int) bool { return slices.Contains(but, a) })
	}
	holds(t, h, state{frees: [4][]int{{9, 1, 5}, {25}, nil, {61}}, hands: hands(1, 5, 9, 25, 61)})
	takes(t, h, 0, 9)
	takes(t, h, 3, 61)
	holds(t, h, state{frees: [4][]int{{1, 5}, {25}, nil, nil}, hands: hands(1, 5, 25)})
	does(t, h.Put(9))
	takes(t, h, 0, 9)
	takes(t, h, 0, 1)
	takes(t, h, 0, 5)
	takes(t, h, 1, 25)
	holds(t, h, state{hands: all()})
	for k := range f {
		for _, a := range f[k] {
			does(t, h.Put(a))
		}
		slices.Reverse(f[k])
	}
	holds(t, h, state{frees: f})
}

func TestTakeRefuses(t *testing.T) {
	h := four(t)
	does(t, h.Put(41))
	unchanged(t, h, func() {
		for _, k := range noClasses() {
			if a, e := h.Take(k); a != 0 || e != api.ErrArg {
				t.Errorf("Take(%d): %d, %d", k, a, e)
			}
		}
		for _, k := range []int{0, 1, 3} {
			if a, e := h.Take(k); a != 0 || e != api.ErrNone {
				t.Errorf("Take(%d): %d, %d", k, a, e)
			}
		}
	})
	takes(t, h, 2, 41)
	if a, e := h.Take(2); a != 0 || e != api.ErrNone {
		t.Errorf("Take of none: %d, %d", a, e)
	}
}

func TestPutRefuses(t *testing.T) {
	h := four(t)
	bears(t, h, 1, 1, 0)
	bears(t, h, 61, 15, 1)
	does(t, h.Put(3), h.Put(41), h.Put(5))
	unchanged(t, h, func() {
		for _, a := range append(noSlots(), 0) {
			is(t, "Put of no slot", h.Put(a), api.ErrArg)
		}
		for _, a := range []int{1, 61} {
			is(t, "Put of an object", h.Put(a), api.ErrState)
		}
		for _, a := range []int{3, 41, 5} {
			is(t, "Put of a free slot", h.Put(a), api.ErrState)
		}
	})
}

func TestPutOfWhatIsBegun(t *testing.T) {
	h := four(t)
	does(t, h.Begin(21, 2), h.Put(21))
	if l := h.Frees(1); !slices.Equal(l, []int{21}) {
		t.Errorf("Frees: %v", l)
	}
	takes(t, h, 1, 21)
	is(t, "Bear of what was put", h.Bear(21, 0), api.ErrState) // its first word was a link since
}

func TestFreesOfNoClass(t *testing.T) {
	h := four(t)
	does(t, h.Put(1), h.Put(21), h.Put(61))
	for _, k := range noClasses() {
		if l := h.Frees(k); l != nil {
			t.Errorf("Frees(%d): %v", k, l)
		}
	}
}

func TestAnswersAreNewMemory(t *testing.T) {
	h := four(t)
	bears(t, h, 1, 0, 0)
	does(t, h.Put(3), h.Put(5))
	was := now(h)
	for _, l := range [][]int{h.Objects(), h.Frees(0), h.Hands()} {
		for i := range l {
			l[i] = 77
		}
		_ = append(l, 78)
	}
	holds(t, h, was)
}

func TestHeapsShareNothing(t *testing.T) {
	g, h := four(t), four(t)
	bears(t, g, 1, 1, 1)
	does(t, g.Store(1, 0, 61), g.SetCell(0, 1), g.Put(21))
	holds(t, h, state{hands: all()})
	bears(t, h, 1, 1, 0)
	unchanged(t, g, func() {
		does(t, h.Store(1, 0, 3), h.SetCell(0, 3), h.Free(1))
	})
	if v, e := h.Cell(0); v != 3 || e != api.OK {
		t.Errorf("Cell: %d, %d", v, e)
	}
}

func TestMakeTheExample(t *testing.T) {
	h := made(t, 2, 16)
	for _, a := range []int{1, 3, 5} {
		makes(t, h, 1, 0, a)
	}
	holds(t, h, state{objects: []int{1, 3, 5}, frees: [4][]int{{7, 9, 11, 13, 15}}})
}

func TestMakeOfEachSize(t *testing.T) {
	for fields := range 16 {
		k := 0
		for _, room := range []int{1, 3, 7} {
			if fields > room {
				k++
			}
		}
		slots := [][]int{{17, 19, 21, 23, 25, 27, 29, 31}, {17, 21, 25, 29}, {17, 25}, {17}}[k]
		for color := range 2 {
			h := made(t, 2, 16, 3)
			makes(t, h, fields, color, 17)
			want := state{objects: []int{17}, hands: []int{1}}
			want.frees[k] = slots[1:]
			holds(t, h, want)
			if n, e := h.Fields(17); n != fields || e != api.OK {
				t.Errorf("Fields: %d, %d; want %d", n, e, fields)
			}
			if c, e := h.Color(17); c != color || e != api.OK {
				t.Errorf("Color: %d, %d; want %d", c, e, color)
			}
		}
	}
}

func TestMakeTakesWhatIsFree(t *testing.T) {
	h := four(t)
	does(t, h.Put(21), h.Put(37), h.Put(3))
	makes(t, h, 2, 0, 37)
	makes(t, h, 3, 1, 21)
	makes(t, h, 0, 1, 3)
	holds(t, h, state{objects: []int{3, 21, 37}, hands: slices.DeleteFunc(all(), func(a int) bool {
		return a == 3 || a == 21 || a == 37
	})})
	makes(t, h, 8, 1, 81) // the slot in hand, 61, isn't taken
	does(t, h.Free(21))
	makes(t, h, 3, 0, 21)
}

func TestMakesFieldsAreNothing(t *testing.T) {
	h := made(t, 1, 16, 2)
	bears(t, h, 9, 7, 1)
	for field := range 7 {
		does(t, h.Store(9, field, 9+field))
	}
	does(t, h.Free(9))
	makes(t, h, 7, 0, 9)
	for field := range 7 {
		if v, e := h.Load(9, field); v != 0 || e != api.OK {
			t.Errorf("field %d: %d, %d", field, v, e)
		}
	}
}

func TestMakeRefuses(t *testing.T) {
	h := four(t)
	does(t, h.Put(1), h.Put(21), h.Put(41), h.Put(61))
	full := made(t, 1, 16, 3)
	for _, h := range []*heap.Heap{h, full, made(t, 1, 16)} {
		unchanged(t, h, func() {
			for _, n := range noCounts() {
				for _, c := range append(noColors(), 0, 1) {
					if a, e := h.Make(n, c); a != 0 || e != api.ErrSize {
						t.Errorf("Make(%d, %d): %d, %d", n, c, a, e)
					}
				}
			}
			for _, c := range noColors() {
				for _, n := range []int{0, 1, 15} {
					if a, e := h.Make(n, c); a != 0 || e != api.ErrArg {
						t.Errorf("Make(%d, %d): %d, %d", n, c, a, e)
					}
				}
			}
		})
	}
}

func TestMakeWithoutMemory(t *testing.T) {
	h := made(t, 2, 16)
	makes(t, h, 4, 0, 1)
	makes(t, h, 2, 0, 17)
	unchanged(t, h, func() {
		for _, n := range []int{0, 1, 8, 15} {
			if a, e := h.Make(n, 0); a != 0 || e != api.ErrMemory {
				t.Errorf("Make(%d, 0): %d, %d", n, a, e)
			}
		}
	})
	makes(t, h, 7, 0, 9)
	if a, e := h.Make(7, 0); a != 0 || e != api.ErrMemory {
		t.Errorf("Make(7, 0): %d, %d", a, e)
	}
	for _, a := range []int{21, 25, 29} {
		makes(t, h, 3, 1, a)
	}
	if a, e := h.Make(3, 1); a != 0 || e != api.ErrMemory {
		t.Errorf("Make(3, 1): %d, %d", a, e)
	}
	holds(t, h, state{objects: []int{1, 9, 17, 21, 25, 29}})
}

func TestNilHeap(t *testing.T) {
	var h *heap.Heap
	if h.Config() != (api.Config{}) || h.Table() != nil || h.Objects() != nil || h.Hands() != nil {
		t.Error("a nil heap has something")
	}
	zero := func(what string, v int, e api.Errno) {
		t.Helper()
		if v != 0 || e != api.ErrState {
			t.Errorf("%s: %d, %d", what, v, e)
		}
	}
	tell := func(what string, tells func(int, int) (int, api.Errno), n, m int) {
		t.Helper()
		v, e := tells(n, m)
		zero(what, v, e)
	}
	for _, n := range []int{math.MinInt, -1, 0, 1, 2, 3, 16, math.MaxInt} {
		for _, m := range []int{-1, 0, 1, 2, 77} {
			tell("Load", h.Load, n, m)
			tell("Make", h.Make, n, m)
			zero("Begin", 0, h.Begin(n, m))
			zero("Bear", 0, h.Bear(n, m))
			zero("Store", 0, h.Store(n, m, m))
			zero("SetCell", 0, h.SetCell(n, m))
			if fresh, e := h.Paint(n, m); fresh || e != api.ErrState {
				t.Errorf("Paint: %v, %d", fresh, e)
			}
		}
		for _, tells := range []func(int) (int, api.Errno){h.Take, h.Fields, h.Color, h.Cell} {
			v, e := tells(n)
			zero("one number", v, e)
		}
		zero("Put", 0, h.Put(n))
		zero("Free", 0, h.Free(n))
		if l, e := h.Assign(n); l != nil || e != api.ErrState {
			t.Errorf("Assign: %v, %d", l, e)
		}
		if h.Is(n) || h.Frees(n) != nil {
			t.Errorf("Is, Frees: %v, %v", h.Is(n), h.Frees(n))
		}
	}
}
