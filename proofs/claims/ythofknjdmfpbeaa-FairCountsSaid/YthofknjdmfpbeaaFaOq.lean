/-
  Opening what a law of layer 24 is given: rows of small numbers.
-/
import Derived.Test.YthofknjdmfpbeaaLaw
import Derived.Test.YthofknjdmfpbeaaFaP
import Derived.Deep.Slices
namespace Go.Proofs.Ythofknjdmfpbeaa.Fa
open Go.ChangeShapes Go.WideShapes Go.ChangeAt Go.RowKit
open Go.Proofs.Ythofknjdmfpbeaa.Row

section
variable {H : Type} {enc : TypeId × Value → H} {w : World} {base : Nat} {spare : Nat → Bool} {held : Bool}
set_option maxRecDepth 100000 in
theorem words_cells {fuel : Nat} {cv : Value} {x : DataW H × List MemPlace} (hf : DataW.trod enc Try.prog w base spare held fuel 31 [cv] = some x) :
    ∃ (a : Option Addr) (l : List Nat) (cap : Nat), cv = .slice a l.length cap ∧ Ru w a l ∧ l.length ≤ cap ∧ cap ≤ maxLen := by
  have hC : Try.prog.cellsOf 33 = 1 := by kernel_rfl
  rcases Deep.open_slice1 Try.underlying31 hC hf with ⟨hcs, _⟩ | ⟨a', len', cap', m, n, V, D, Pl, hcs, _, hl, hm, hmm, _, hx⟩
  · simp at hcs
    subst hcs
    exact ⟨none, [], 0, rfl, fun j hj => absurd hj (by simp), by simp, by simp⟩
  · simp at hcs
    subst hcs
    have hlm : len' ≤ m := by rw [hmm]; split <;> omega
    have each : ∀ i, i < len' → ∃ q : Nat, w.cell? (a'.add i) = some (.int .u16 q) ∧ q < 65536 := fun i hi => by
      obtain ⟨h1, h2⟩ := hx i (by omega)
      obtain ⟨k, e0, hk⟩ := DataW.trod_int Try.underlying33 h2
      simp only [List.cons.injEq, and_true] at e0
      have hb := bounds_u16 hk.2
      exact ⟨k.toNat, by rw [Int.toNat_of_nonneg hb.1, h1, e0], by omega⟩
    obtain ⟨q, hq⟩ := Deep.choose_lt each
    refine ⟨some a', (List.range len').map q, cap', by simp, fun j hj => ?_, by simpa using hl, hm⟩
    have hj' : j < len' := by simpa using hj
    obtain ⟨c0, c3⟩ := hq j hj'
    obtain ⟨b, off, spot⟩ := a'
    have hspot : spot = none := by simpa [Addr.add] using World.cell?_spot (hq 0 (by omega)).1
    subst hspot
    rw [Go.WideShapes.add_plain] at c0
    have hd : ((List.range len').map q).getD j 0 = q j := by simp [hj', List.getD_eq_getElem?_getD]
    rw [hd]
    exact ⟨c3, b, off, rfl, c0⟩
theorem open_words {r : Reach} {b0 : Nat} {v : Value} {d : DataW H} {p : List MemPlace} (hv : Value.okWide Try.prog w r b0 31 v) (h : DataW.Trod enc Try.prog w base spare held 31 v d p) :
    ∃ (a : Option Addr) (l : List Nat) (cap : Nat), v = .slice a l.length cap ∧ Ru w a l ∧ l.length ≤ cap ∧ cap ≤ maxLen := by
  obtain ⟨a, len, cap, rfl⟩ := okWide_slice Try.underlying31 hv
  obtain ⟨fuel, hf⟩ := h
  exact words_cells (cv := .slice a len cap) (by simpa [Value.cells] using hf)
end
end Go.Proofs.Ythofknjdmfpbeaa.Fa
