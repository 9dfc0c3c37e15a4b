package replay

import (
	"dustpan/api"
	"dustpan/world"
)

// Same tells whether a world is as the graph is.
func (r *Replay) Same(w *world.World) bool {
	return r != nil && r.config == w.Config() && r.sameRegs(w) && r.sameCells(w) && r.sameObjects(w)
}

// sameRegs tells whether each register is the same.
func (r *Replay) sameRegs(w *world.World) bool {
	for m := range r.config.Muts {
		for i, a := range w.Mut(m).Regs() {
			if a != r.at[r.graph.Reg(m, i)] {
				return false
			}
		}
	}
	return true
}

// sameCells tells whether each cell is.
func (r *Replay) sameCells(w *world.World) bool {
	for i := range r.config.Cells {
		a, code := w.Shared().Heap.Cell(i)
		if code != api.OK || a != r.at[r.graph.Cell(i)] {
			return false
		}
	}
	return true
}

// sameObjects tells whether each object that the graph reaches is, and has an address of its own.
func (r *Replay) sameObjects(w *world.World) bool {
	were := map[int]bool{}
	for _, id := range r.graph.Reach() {
		if were[r.at[id]] || !r.sameFields(w, id) {
			return false
		}
		were[r.at[id]] = true
	}
	return true
}

// sameFields tells whether each of an object's fields is the same.
func (r *Replay) sameFields(w *world.World, id int) bool {
	for i, v := range r.graph.Fields(id) {
		a, code := w.Shared().Heap.Load(r.at[id], i)
		if code != api.OK || a != r.at[v] {
			return false
		}
	}
	return true
}
