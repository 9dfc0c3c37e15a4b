/-
  Opening what the law HeapCells is given: a row of pairs.
-/
import Derived.Test.YtcoolapancdioaaDoorBas
import Derived.Test.YtcoolapancdioaaDoorHpCel
import Derived.SizedLaws
import Derived.Deep.Slices
namespace Go.Proofs.YtcoolapancdioaaDoor.Hp
open Go.ChangeShapes Go.WideShapes Go.ChangeAt Go.RowKit

section
variable {H : Type} {enc : TypeId × Value → H} {w : World} {base : Nat} {spare : Nat → Bool} {held : Bool}
set_option maxRecDepth 100000 in
/-- Two numbers, cell by cell. -/
theorem pair_cells {fuel : Nat} {c0 c1 : Value} {x : DataW H × List MemPlace} (h : DataW.trod enc Tryd.prog w base spare held fuel 41 [c0, c1] = some x) : ∃ (a b : Int), c0 = .int .i64 a ∧ c1 = .int .i64 b := by
  have cI : Tryd.prog.cellsOf 3 = 1 := by kernel_rfl
  obtain ⟨xs, n, _, _, _, hlen, hg⟩ := DataW.trod_array Tryd.underlying41 h
  match xs, hlen with
  | [y0, y1], _ =>
    obtain ⟨a, e0, _⟩ := DataW.trod_int Tryd.underlying3 (show DataW.trod enc _ _ _ _ _ _ 3 [c0] = some y0 by simpa [Value.cells, cI] using hg 0 (by decide))
    obtain ⟨b, e1, _⟩ := DataW.trod_int Tryd.underlying3 (show DataW.trod enc _ _ _ _ _ _ 3 [c1] = some y1 by simpa [Value.cells, cI] using hg 1 (by decide))
    simp only [List.cons.injEq, and_true] at e0 e1
    exact ⟨a, b, e0, e1⟩
set_option maxRecDepth 100000 in
theorem open_pairs {r : Reach} {b0 : Nat} {v : Value} {d : DataW H} {p : List MemPlace} (hv : Value.okWide Tryd.prog w r b0 40 v) (h : DataW.Trod enc Tryd.prog w base spare held 40 v d p) :
    ∃ (a : Option Addr) (l : List (Int × Int)) (cap : Nat), v = .slice a l.length cap ∧ PairsL w.heap.size w a l := by
  have hC : Tryd.prog.cellsOf 41 = 2 := by kernel_rfl
  obtain ⟨a, len, cap, rfl⟩ := okWide_slice Tryd.underlying40 hv
  obtain ⟨fuel, hf⟩ := h
  rcases Deep.open_slice Tryd.underlying40 hf with ⟨hcs, _⟩ | ⟨a', len', cap', m, n, D, Pl, hcs, _, hl, hm, hmm, _, hx⟩
  · simp [Value.cells] at hcs
    obtain ⟨rfl, rfl, rfl⟩ := hcs
    exact ⟨none, [], 0, rfl, fun j hj => absurd hj (by simp)⟩
  · simp [Value.cells] at hcs
    obtain ⟨rfl, rfl, rfl⟩ := hcs
    have hlm : len ≤ m := by rw [hmm]; split <;> omega
    have each : ∀ i, i < len → ∃ q : Int × Int, w.cell? (a'.add (i * 2)) = some (.int .i64 q.1) ∧ w.cell? (a'.add (i * 2 + 1)) = some (.int .i64 q.2) := fun i hi => by
      obtain ⟨cs', h1, h2⟩ := hx i (by omega)
      rw [hC] at h1
      obtain ⟨_, hlen, hcell⟩ := World.cells?_some h1
      match cs', hlen with
      | [v0, v1], _ =>
        obtain ⟨x, y, rfl, rfl⟩ := pair_cells h2
        have e0 := hcell 0 (by omega)
        have e1 := hcell 1 (by omega)
        rw [Deep.add_add] at e0 e1
        exact ⟨(x, y), by simpa using e0, by simpa using e1⟩
    obtain ⟨q, hq⟩ := Deep.choose_lt each
    refine ⟨some a', (List.range len).map q, cap, by simp, fun j hj => ?_⟩
    have hj' : j < len := by simpa using hj
    obtain ⟨c0, c1⟩ := hq j hj'
    obtain ⟨b, off, spot⟩ := a'
    have hspot : spot = none := by simpa [Addr.add] using World.cell?_spot (hq 0 (by omega)).1
    subst hspot
    rw [Go.WideShapes.add_plain] at c0 c1
    refine ⟨b, off, rfl, World.block_lt_of_cell? w _ c0, ?_, ?_⟩
    · rw [c0]; simp [hj', List.getD_eq_getElem?_getD]
    · rw [Nat.add_assoc, c1]; simp [hj', List.getD_eq_getElem?_getD]
end
end Go.Proofs.YtcoolapancdioaaDoor.Hp
