/-
  What an operation doesn't use counts nowhere; two operations that aren't the same.
-/
import Derived.Test.YtcdnbheoelnghaaDoorOpI
namespace Go.Proofs.YtcdnbheoelnghaaDoor.Opr
open Go.RowKit

/-- Cells as they lie. -/
def CellsAt (W : World) (g : Nat) (l : List Value) : Prop := ∀ j v, l[j]? = some v → W.cell? ⟨g, j, none⟩ = some v
theorem CellsAt.later {W W' : World} {g : Nat} {l : List Value} (h : CellsAt W g l) (hb : Below W.heap.size W W') : CellsAt W' g l := fun j v hv => (hb.cell (p := ⟨g, j, none⟩) (lt_of_cell (h j v hv))).trans (h j v hv)
theorem CellsAt.new (W : World) (a : Array Value) (t : TypeId) : CellsAt (W.alloc (.cells a t)) W.heap.size a.toList := fun j v hv => by
  rw [World.cell?_alloc_new]
  rw [Array.getElem?_toList] at hv
  exact hv
theorem CellsAt.at {W : World} {g g' : Nat} {l : List Value} (h : CellsAt W g l) (e : g = g') : CellsAt W g' l := e ▸ h

end Go.Proofs.YtcdnbheoelnghaaDoor.Opr
