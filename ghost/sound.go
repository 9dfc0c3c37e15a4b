package ghost

import (
	"iter"

	"dustpan/api"
	"dustpan/heap"
	"dustpan/trace"
)

// wrong is the first that is wrong of a heap, with these roots, of whose slots these lists tell what they are; the zero finding, if nothing is.
func wrong(h *heap.Heap, roots []int, lists ...[]int) Finding {
	var f Finding
looking:
	for _, look := range []func() Finding{
		func() Finding { return rootGone(h, roots) },
		func() Finding { return fieldGone(h, trace.Reach(h, roots...)) },
		func() Finding { return parts(h.Table().All(), lists) },
	} {
		if f = look(); f.Kind != 0 {
			break looking
		}
	}
	return f
}

// rootGone is the first root that is no object.
func rootGone(h *heap.Heap, roots []int) Finding {
	for _, a := range roots {
		if !h.Is(a) {
			return Finding{Kind: RootGone, At: a}
		}
	}
	return Finding{}
}

// fieldGone is the first of what is reached that has a field that is neither 0 nor an object, and the first such field.
func fieldGone(h *heap.Heap, reached []int) Finding {
	for _, a := range reached {
		for field, v := range trace.Edges(h, a) {
			if !h.Is(v) {
				return Finding{Kind: FieldGone, At: a, What: field}
			}
		}
	}
	return Finding{}
}

// parts is the first slot that isn't in just one of some lists, and there once.
func parts(slots iter.Seq[int], lists [][]int) Finding {
	times := map[int]int{}
	for _, l := range lists {
		for _, a := range l {
			times[a]++
		}
	}
	for a := range slots {
		if times[a] != 1 {
			return Finding{Kind: Parts, At: a}
		}
	}
	return Finding{}
}

// things is all slots of which a heap tells what they are: its objects, those in hand, and the free ones of each class.
func things(h *heap.Heap) [][]int {
	l := [][]int{h.Objects(), h.Hands()}
	for class := range api.Classes {
		l = append(l, h.Frees(class))
	}
	return l
}
