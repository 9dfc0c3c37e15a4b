package ghost

import (
	"testing"

	"dustpan/api"
	"dustpan/heap"
)

// laid is a heap with the slots 1, 5, 9 and 13, and 17, and with as many objects of 3 fields as that, from 1 on.
func laid(t *testing.T, objects int) *heap.Heap {
	t.Helper()
	h, e := heap.New(api.Config{Blocks: 3, Words: 16, Muts: 1, Regs: 1, Log: 1, Stack: 1})
	if e != api.OK {
		t.Fatal("no heap:", e)
	}
	h.Assign(1)
	h.Assign(3)
	for i := range objects {
		a := 1 + 4*i
		h.Begin(a, 3)
		h.Bear(a, 0)
	}
	return h
}

// finds holds what is wrong against what should be.
func finds(t *testing.T, h *heap.Heap, roots []int, want Finding, lists ...[]int) {
	t.Helper()
	if f := wrong(h, roots, lists...); f != want {
		t.Errorf("with the roots %v, and %v: %v; want %v", roots, lists, f, want)
	}
}

// No heap has a slot that isn't just one thing, so here others tell what slots are.
func TestParts(t *testing.T) {
	slots := []int{1, 5, 9, 13, 17}
	for _, x := range []struct {
		objects, hands, frees, more []int
		want                        int
	}{
		{slots, nil, nil, nil, 0},
		{nil, slots, nil, nil, 0},
		{nil, nil, nil, slots, 0},
		{[]int{5}, []int{1, 13}, []int{9}, []int{17}, 0},
		{[]int{17}, nil, []int{13, 5}, []int{9, 1}, 0},
		{nil, nil, nil, nil, 1},                             // nothing
		{[]int{1, 5, 9, 13}, nil, nil, nil, 17},             // the last one is nothing
		{[]int{1, 17}, []int{5}, []int{13}, nil, 9},         // one between
		{[]int{1, 5, 9}, []int{9}, []int{13, 17}, nil, 9},   // two things
		{[]int{1, 5}, []int{13}, []int{9, 17}, []int{5}, 5}, // free, and an object
		{[]int{1, 5}, []int{9, 13}, []int{13}, []int{17}, 13},
		{nil, []int{1, 5}, []int{9, 13, 17}, []int{17}, 17}, // in two lists
		{nil, nil, []int{13, 5, 17, 13, 9, 1}, nil, 13},     // twice in one
		{[]int{1, 5, 9}, []int{1, 5, 9}, nil, nil, 1},       // the least one is told
		{[]int{9, 13, 17}, []int{17}, nil, nil, 1},
		{slots, []int{2, 4}, []int{18, 2, 0, -1, 33}, nil, 0}, // what is no slot is nothing
	} {
		want := Finding{}
		if x.want != 0 {
			want = Finding{Kind: Parts, At: x.want}
		}
		finds(t, laid(t, 0), nil, want, x.objects, x.hands, x.frees, x.more)
	}
	finds(t, nil, nil, Finding{}, slots, slots)
}

// What isn't just one thing is told behind roots and fields, whatever their addresses are.
func TestPartsAreLast(t *testing.T) {
	h := laid(t, 4)
	none := []int{1}
	finds(t, h, []int{13}, Finding{Kind: Parts, At: 5}, none)
	h.Store(9, 2, 17)
	finds(t, h, []int{13}, Finding{Kind: Parts, At: 5}, none)
	h.Store(13, 1, 9)
	finds(t, h, []int{13}, Finding{Kind: FieldGone, At: 9, What: 2}, none)
	finds(t, h, []int{13, 17}, Finding{Kind: RootGone, At: 17}, none)
}

// A heap tells of each slot what it is, of whatever class: an object, in hand, or free.
func TestThings(t *testing.T) {
	h, e := heap.New(api.Config{Blocks: 4, Words: 48, Muts: 1, Regs: 1, Log: 1, Stack: 1})
	if e != api.OK {
		t.Fatal("no heap:", e)
	}
	for class, fields := range []int{1, 3, 7, 15} {
		h.Make(fields, 0)
		h.Take(class)
	}
	times := map[int]int{}
	for i, l := range things(h) {
		for _, a := range l {
			times[a]++
		}
		if len(l) == 0 {
			t.Error("nothing is told by the list", i)
		}
	}
	n := 0
	for a := range h.Table().All() {
		if n++; times[a] != 1 {
			t.Errorf("of %d it is told %d times what it is", a, times[a])
		}
	}
	if n != len(times) {
		t.Error("what is told is not just of slots:", times)
	}
}
