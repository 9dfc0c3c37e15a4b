/-
  Opening what a law of layer 1 is given, and what the laid table gives.
-/
import Derived.Test.YtahhenbphnejiaaDoorLaw
import Derived.Test.YtahhenbphnejiaaDoorBitsSames
import Derived.Test.YtahhenbphnejiaaDoorCards
import Derived.Test.YtahhenbphnejiaaDoorTie
import Derived.LaidMore
import Derived.Stop.Joined
import Derived.Lib.LaidTab
namespace Go.Proofs.YtahhenbphnejiaaDoor.Bits
open Go.ChangeShapes Go.WideShapes Go.ChangeAt Go.RowKit

theorem gTz : Tryd.prog.globalNamed "math/bits.deBruijn64tab" = some 1 := by kernel_rfl
theorem tTz : (Tryd.prog.globals[1]?).map (·.type) = some 86 := by kernel_rfl
theorem cTz : Tryd.prog.cellsOf 86 = 64 := by kernel_rfl
theorem cU8 : Tryd.prog.cellsOf 5 = 1 := by kernel_rfl

theorem tzTab_of_laid {W : World} (h : laidMetH Tryd.prog [("math/bits.deBruijn64tab", Rows.laid_math_bits_deBruijn64tab)] W) : TzTab W ∧ 1 < W.heap.size := by
  rw [MakeChecks.laidMetH_plain _ _ _ (by kernel_rfl)] at h
  have ht := Lib.tabIs_of_head (k := .u8) (zs := Lib.deBruijn64tab.map (fun n : Nat => (n : Int))) (rest := []) gTz tTz Tryd.underlying86 Tryd.underlying5 cU8 cTz h
  have hc : TzTab W := fun j hj => by
    have := ht.cell gTz j (by simpa using hj)
    rw [this]
    simp [List.getD_eq_getElem?_getD, hj]
  exact ⟨hc, World.block_lt_of_cell? W _ (hc 0 (by decide))⟩

theorem door_met (os : Os) (args : Array Value) : laidMetH Tryd.prog [("math/bits.deBruijn64tab", Rows.laid_math_bits_deBruijn64tab)] ((World.doorLaid Tryd.prog 400 os).forCall (fun _ _ => 0) ⟨#[], args, []⟩).memory :=
  laidMetH_of_parts3 (fuel := 8) (laidMet_of_run' 8 (by kernel_rfl) (by kernel_rfl)) (by kernel_rfl) (by kernel_rfl)

section
variable {H : Type} {enc : TypeId × Value → H} {w : World} {base : Nat} {spare : Nat → Bool} {held : Bool}
/-- A list of numbers that came in. -/
theorem open_list {r : Reach} {b0 : Nat} {v : Value} {d : DataW H} {p : List MemPlace} (hv : Value.okWide Tryd.prog w r b0 35 v) (h : DataW.Trod enc Tryd.prog w base spare held 35 v d p) :
    ∃ (a : Option Addr) (zs : List Int) (cap : Nat), v = .slice a zs.length cap ∧ IntsP w.heap.size w a zs ∧ zs.length ≤ maxLen := by
  have hc3 : Tryd.prog.cellsOf 3 = 1 := by kernel_rfl
  obtain ⟨a, len, cap, rfl⟩ := okWide_slice Tryd.underlying35 hv
  obtain ⟨fuel, hf⟩ := h
  rcases open_ints Tryd.underlying35 Tryd.underlying3 hc3 hf with ⟨hcs, _⟩ | ⟨a', len', cap', zs, hcs, _, hl, hm, hz, _, hcell, _⟩
  · simp [Value.cells] at hcs
    obtain ⟨rfl, rfl, rfl⟩ := hcs
    exact ⟨none, [], 0, rfl, fun j hj => absurd hj (by simp), by simp⟩
  · simp [Value.cells] at hcs
    obtain ⟨rfl, rfl, rfl⟩ := hcs
    have hlz : len ≤ zs.length := by rw [hz]; split <;> omega
    have htl : (zs.take len).length = len := by simp; omega
    refine ⟨some a', zs.take len, cap, by rw [htl], fun j hj => ?_, by rw [htl]; omega⟩
    rw [htl] at hj
    obtain ⟨b, off, e, hc⟩ := ints_at hcell (by omega)
    subst e
    refine ⟨b, off, rfl, World.block_lt_of_cell? w _ (hc j (by omega)), ?_⟩
    rw [hc j (by omega)]
    simp [List.getD_eq_getElem?_getD, hj]

/-- Two small sizes that came in. -/
theorem open_pair {r : Reach} {b0 : Nat} {v : Value} {d : DataW H} {p : List MemPlace} (hv : Value.okWide Tryd.prog w r b0 50 v) (h : DataW.Trod enc Tryd.prog w base spare held 50 v d p) :
    ∃ m n : Nat, m < 256 ∧ n < 256 ∧ v = .agg #[.int .u8 m, .int .u8 n] := by
  have hu := Tryd.underlying50
  obtain ⟨cs, rfl, hsz⟩ : ∃ cs, v = .agg cs ∧ cs.size = Tryd.prog.cellsOf 50 := by
    simp only [Value.okWide, hu] at hv
    obtain ⟨cs, h1, h2, _⟩ := hv
    exact ⟨cs, h1, h2⟩
  have hC : Tryd.prog.cellsOf 50 = 2 := by kernel_rfl
  obtain ⟨l⟩ := cs
  obtain ⟨fuel, hf⟩ := h
  obtain ⟨xs, n, _, _, _, hlen, hg⟩ := DataW.trod_array hu hf
  match l, hsz.trans hC with
  | [c0, c1], _ =>
    match xs, hlen with
    | [y0, y1], _ =>
      obtain ⟨a, e0, _, w0⟩ := DataW.trod_int Tryd.underlying5 (show DataW.trod enc _ _ _ _ _ _ 5 [c0] = some y0 by simpa [Value.cells, cU8] using hg 0 (by decide))
      obtain ⟨b, e1, _, w1⟩ := DataW.trod_int Tryd.underlying5 (show DataW.trod enc _ _ _ _ _ _ 5 [c1] = some y1 by simpa [Value.cells, cU8] using hg 1 (by decide))
      simp only [List.cons.injEq, and_true] at e0 e1
      subst e0 e1
      have b0 := bounds_u8 w0
      have b1 := bounds_u8 w1
      obtain ⟨m, rfl⟩ := Int.eq_ofNat_of_zero_le b0.1
      obtain ⟨k, rfl⟩ := Int.eq_ofNat_of_zero_le b1.1
      exact ⟨m, k, by omega, by omega, rfl⟩
end
end Go.Proofs.YtahhenbphnejiaaDoor.Bits
