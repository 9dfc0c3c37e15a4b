/-
  Opening what a law of layer 12 is given: numbers, bytes, and what is done.
-/
import Derived.Test.YtadkmidipjlcjaaLaw
import Derived.Test.YtadkmidipjlcjaaQuF
import Derived.Deep.Slices
namespace Go.Proofs.Ytadkmidipjlcjaa.Qu
open Go.ChangeShapes Go.WideShapes Go.ChangeAt Go.RowKit
open Go.Proofs.Ytadkmidipjlcjaa.Row

section
variable {H : Type} {enc : TypeId × Value → H} {w : World} {base : Nat} {spare : Nat → Bool} {held : Bool}
/-- One of what is done, cell by cell. -/
theorem deed_cells {fuel : Nat} {c0 c1 c2 : Value} {x : DataW H × List MemPlace} (h : DataW.trod enc Try.prog w base spare held fuel 29 [c0, c1, c2] = some x) : ∃ (kd : Nat) (a b : Int), c0 = .int .u8 kd ∧ c1 = .int .i64 a ∧ c2 = .int .i64 b := by
  have hc5 : Try.prog.cellsOf 5 = 1 := by kernel_rfl
  have hc6 : Try.prog.cellsOf 3 = 1 := by kernel_rfl
  obtain ⟨xs, n, _, hx, _, hlen, hg⟩ := DataW.trod_struct Try.underlying29 h
  match xs, hlen with
  | [y0, y1, y2], _ =>
    obtain ⟨k, e0, hk⟩ := DataW.trod_int Try.underlying5 (show DataW.trod enc _ _ _ _ _ _ 5 [c0] = some y0 by simpa [Value.cells, hc5, hc6] using hg 0 _ rfl)
    obtain ⟨a, e1, _⟩ := DataW.trod_int Try.underlying3 (show DataW.trod enc _ _ _ _ _ _ 3 [c1] = some y1 by simpa [Value.cells, hc5, hc6] using hg 1 _ rfl)
    obtain ⟨b, e2, _⟩ := DataW.trod_int Try.underlying3 (show DataW.trod enc _ _ _ _ _ _ 3 [c2] = some y2 by simpa [Value.cells, hc5, hc6] using hg 2 _ rfl)
    simp only [List.cons.injEq, and_true] at e0 e1 e2
    have hb := bounds_u8 hk.2
    exact ⟨k.toNat, a, b, by rw [Int.toNat_of_nonneg hb.1]; exact e0, e1, e2⟩
set_option maxRecDepth 100000 in
theorem open_deeds {r : Reach} {b0 : Nat} {v : Value} {d : DataW H} {p : List MemPlace} (hv : Value.okWide Try.prog w r b0 22 v) (h : DataW.Trod enc Try.prog w base spare held 22 v d p) :
    ∃ (a : Option Addr) (l : List (Nat × Int × Int)) (cap : Nat), v = .slice a l.length cap ∧ DeedsP w.heap.size w a l ∧ l.length ≤ maxLen := by
  have hC : Try.prog.cellsOf 29 = 3 := by kernel_rfl
  obtain ⟨a, len, cap, rfl⟩ := okWide_slice Try.underlying22 hv
  obtain ⟨fuel, hf⟩ := h
  rcases Deep.open_slice Try.underlying22 hf with ⟨hcs, _⟩ | ⟨a', len', cap', m, n, D, Pl, hcs, _, hl, hm, hmm, _, hx⟩
  · simp [Value.cells] at hcs
    obtain ⟨rfl, rfl, rfl⟩ := hcs
    exact ⟨none, [], 0, rfl, fun j hj => absurd hj (by simp), by simp⟩
  · simp [Value.cells] at hcs
    obtain ⟨rfl, rfl, rfl⟩ := hcs
    have hlm : len ≤ m := by rw [hmm]; split <;> omega
    have each : ∀ i, i < len → ∃ q : Nat × Int × Int, w.cell? (a'.add (i * 3)) = some (.int .u8 q.1) ∧ w.cell? (a'.add (i * 3 + 1)) = some (.int .i64 q.2.1) ∧ w.cell? (a'.add (i * 3 + 2)) = some (.int .i64 q.2.2) := fun i hi => by
      obtain ⟨cs', h1, h2⟩ := hx i (by omega)
      rw [hC] at h1
      obtain ⟨_, hlen, hcell⟩ := World.cells?_some h1
      match cs', hlen with
      | [v0, v1, v2], _ =>
        obtain ⟨x, y, z, rfl, rfl, rfl⟩ := deed_cells h2
        have e0 := hcell 0 (by omega)
        have e1 := hcell 1 (by omega)
        have e2 := hcell 2 (by omega)
        rw [Deep.add_add] at e0 e1 e2
        exact ⟨(x, y, z), by simpa using e0, by simpa using e1, by simpa using e2⟩
    obtain ⟨q, hq⟩ := Deep.choose_lt each
    refine ⟨some a', (List.range len).map q, cap, by simp, fun j hj => ?_, by simp; omega⟩
    have hj' : j < len := by simpa using hj
    obtain ⟨c0, c1, c2⟩ := hq j hj'
    obtain ⟨b, off, spot⟩ := a'
    have hspot : spot = none := by simpa [Addr.add] using World.cell?_spot (hq 0 (by omega)).1
    subst hspot
    rw [Go.WideShapes.add_plain] at c0 c1 c2
    have hd : ((List.range len).map q).getD j (0, 0, 0) = q j := by simp [hj', List.getD_eq_getElem?_getD]
    rw [hd]
    exact ⟨b, off, rfl, World.block_lt_of_cell? w _ c0, c0, by rw [Nat.add_assoc, c1], by rw [Nat.add_assoc, c2]⟩
end
end Go.Proofs.Ytadkmidipjlcjaa.Qu
