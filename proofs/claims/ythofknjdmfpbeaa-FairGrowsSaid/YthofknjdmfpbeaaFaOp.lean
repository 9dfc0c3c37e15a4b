/-
  Opening what a law of layer 24 is given: rows of numbers.
-/
import Derived.Test.YthofknjdmfpbeaaLaw
import Derived.Test.YthofknjdmfpbeaaFaH
import Derived.Deep.Slices
namespace Go.Proofs.Ythofknjdmfpbeaa.Fa
open Go.ChangeShapes Go.WideShapes Go.ChangeAt Go.RowKit
open Go.Proofs.Ythofknjdmfpbeaa.Row

section
variable {H : Type} {enc : TypeId × Value → H} {w : World} {base : Nat} {spare : Nat → Bool} {held : Bool}
/-- A list of numbers that came in. -/
theorem open_list {r : Reach} {b0 : Nat} {v : Value} {d : DataW H} {p : List MemPlace} (hv : Value.okWide Try.prog w r b0 22 v) (h : DataW.Trod enc Try.prog w base spare held 22 v d p) :
    ∃ (a : Option Addr) (zs : List Int) (cap : Nat), v = .slice a zs.length cap ∧ Rd0 w a zs ∧ zs.length ≤ cap ∧ cap ≤ maxLen := by
  have hc3 : Try.prog.cellsOf 3 = 1 := by kernel_rfl
  obtain ⟨a, len, cap, rfl⟩ := okWide_slice Try.underlying22 hv
  obtain ⟨fuel, hf⟩ := h
  rcases open_ints Try.underlying22 Try.underlying3 hc3 hf with ⟨hcs, _⟩ | ⟨a', len', cap', zs, hcs, _, hl, hm, hz, _, hcell, _⟩
  · simp [Value.cells] at hcs
    obtain ⟨rfl, rfl, rfl⟩ := hcs
    exact ⟨none, [], 0, rfl, fun j hj => absurd hj (by simp), by simp, by simp⟩
  · simp [Value.cells] at hcs
    obtain ⟨rfl, rfl, rfl⟩ := hcs
    have hlz : len ≤ zs.length := by rw [hz]; split <;> omega
    have htl : (zs.take len).length = len := by simp; omega
    refine ⟨some a', zs.take len, cap, by rw [htl], ?_, by rw [htl]; exact hl, hm⟩
    intro j hj
    rw [htl] at hj
    obtain ⟨b, off, e, hc⟩ := ints_at hcell (by omega)
    subst e
    refine ⟨b, off, rfl, ?_⟩
    rw [hc j (by omega)]
    simp [List.getD_eq_getElem?_getD, hj]

/-- And what room a list has that is none. -/
theorem open_list2 {r : Reach} {b0 : Nat} {v : Value} {d : DataW H} {p : List MemPlace} (hv : Value.okWide Try.prog w r b0 22 v) (h : DataW.Trod enc Try.prog w base spare held 22 v d p) :
    ∃ (a : Option Addr) (zs : List Int) (cap : Nat), v = .slice a zs.length cap ∧ Rd0 w a zs ∧ zs.length ≤ cap ∧ cap ≤ maxLen ∧ (a = none → cap = 0) := by
  have hc3 : Try.prog.cellsOf 3 = 1 := by kernel_rfl
  obtain ⟨a, len, cap, rfl⟩ := okWide_slice Try.underlying22 hv
  obtain ⟨fuel, hf⟩ := h
  rcases open_ints Try.underlying22 Try.underlying3 hc3 hf with ⟨hcs, _⟩ | ⟨a', len', cap', zs, hcs, _, hl, hm, hz, _, hcell, _⟩
  · simp [Value.cells] at hcs
    obtain ⟨rfl, rfl, rfl⟩ := hcs
    exact ⟨none, [], 0, rfl, fun j hj => absurd hj (by simp), by simp, by simp, fun _ => rfl⟩
  · simp [Value.cells] at hcs
    obtain ⟨rfl, rfl, rfl⟩ := hcs
    have hlz : len ≤ zs.length := by rw [hz]; split <;> omega
    have htl : (zs.take len).length = len := by simp; omega
    refine ⟨some a', zs.take len, cap, by rw [htl], ?_, by rw [htl]; exact hl, hm, fun e => by cases e⟩
    intro j hj
    rw [htl] at hj
    obtain ⟨b, off, e, hc⟩ := ints_at hcell (by omega)
    subst e
    refine ⟨b, off, rfl, ?_⟩
    rw [hc j (by omega)]
    simp [List.getD_eq_getElem?_getD, hj]

set_option maxRecDepth 100000 in
theorem open_two8 {r : Reach} {b0 : Nat} {v : Value} {d : DataW H} {p : List MemPlace} (hv : Value.okWide Try.prog w r b0 35 v) (h : DataW.Trod enc Try.prog w base spare held 35 v d p) :
    ∃ m n : Nat, v = .agg #[.int .u8 m, .int .u8 n] ∧ m < 256 ∧ n < 256 := by
  have hu := Try.underlying35
  have cI : Try.prog.cellsOf 5 = 1 := by kernel_rfl
  obtain ⟨cs, rfl, hsz⟩ : ∃ cs, v = .agg cs ∧ cs.size = Try.prog.cellsOf 35 := by
    simp only [Value.okWide, hu] at hv
    obtain ⟨cs, h1, h2, _⟩ := hv
    exact ⟨cs, h1, h2⟩
  have hC : Try.prog.cellsOf 35 = 2 := by kernel_rfl
  obtain ⟨l⟩ := cs
  obtain ⟨fuel, hf⟩ := h
  obtain ⟨xs, n, _, _, _, hlen, hg⟩ := DataW.trod_array hu hf
  match l, hsz.trans hC with
  | [c0, c1], _ =>
    match xs, hlen with
    | [y0, y1], _ =>
      obtain ⟨a, e0, ha⟩ := DataW.trod_int Try.underlying5 (show DataW.trod enc _ _ _ _ _ _ 5 [c0] = some y0 by simpa [Value.cells, cI] using hg 0 (by decide))
      obtain ⟨b, e1, hb⟩ := DataW.trod_int Try.underlying5 (show DataW.trod enc _ _ _ _ _ _ 5 [c1] = some y1 by simpa [Value.cells, cI] using hg 1 (by decide))
      simp only [List.cons.injEq, and_true] at e0 e1
      subst e0 e1
      have ba := bounds_u8 ha.2
      have bb := bounds_u8 hb.2
      exact ⟨a.toNat, b.toNat, by rw [Int.toNat_of_nonneg ba.1, Int.toNat_of_nonneg bb.1], by omega, by omega⟩
end
end Go.Proofs.Ythofknjdmfpbeaa.Fa
