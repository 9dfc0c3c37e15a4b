/-
  Rows of bytes and of numbers that came in.
-/
import Derived.Test.YtfifliepjmpgkaaDoorLaw
import Derived.Test.YtfifliepjmpgkaaDoorBlkM
import Derived.Test.YtfifliepjmpgkaaDoorAddrK
namespace Go.Proofs.YtfifliepjmpgkaaDoor.Blk
open Go.ChangeShapes Go.WideShapes Go.ChangeAt Go.RowKit
open Go.Proofs.YtfifliepjmpgkaaDoor.Addr (ListP)

section
variable {H : Type} {enc : TypeId × Value → H} {w : World} {base : Nat} {spare : Nat → Bool} {held : Bool}
set_option maxRecDepth 100000 in
/-- A row of bytes that came in. -/
theorem open_bytesP {r : Reach} {b0 : Nat} {v : Value} {d : DataW H} {p : List MemPlace} (hv : Value.okWide Tryd.prog w r b0 50 v) (h : DataW.Trod enc Tryd.prog w base spare held 50 v d p) :
    ∃ (a : Option Addr) (zs : List Nat) (cap : Nat), v = .slice a zs.length cap ∧ BytesP w.heap.size w a zs := by
  have hc3 : Tryd.prog.cellsOf 5 = 1 := by kernel_rfl
  obtain ⟨a, len, cap, rfl⟩ := okWide_slice Tryd.underlying50 hv
  obtain ⟨fuel, hf⟩ := h
  rcases open_ints Tryd.underlying50 Tryd.underlying5 hc3 hf with ⟨hcs, _⟩ | ⟨a', len', cap', zs, hcs, _, hl, hm, hz, _, hcell, hwf⟩
  · simp [Value.cells] at hcs
    obtain ⟨rfl, rfl, rfl⟩ := hcs
    exact ⟨none, [], 0, rfl, fun j hj => absurd hj (by simp)⟩
  · simp [Value.cells] at hcs
    obtain ⟨rfl, rfl, rfl⟩ := hcs
    have hlz : len ≤ zs.length := by rw [hz]; split <;> omega
    have htl : ((zs.take len).map Int.toNat).length = len := by simp; omega
    refine ⟨some a', (zs.take len).map Int.toNat, cap, by rw [htl], fun j hj => ?_⟩
    rw [htl] at hj
    obtain ⟨b, off, e, hc⟩ := ints_at hcell (by omega)
    subst e
    have hjz : j < zs.length := by omega
    have hb := bounds_u8 (hwf zs[j] (List.getElem_mem hjz))
    have hg : ((zs.take len).map Int.toNat).getD j 0 = zs[j].toNat := by simp [List.getD_eq_getElem?_getD, hj, hjz]
    refine ⟨b, off, rfl, World.block_lt_of_cell? w _ (hc j hjz), by rw [hg]; omega, ?_⟩
    rw [hc j hjz, hg, Int.toNat_of_nonneg hb.1]
    simp [List.getD_eq_getElem?_getD, hjz]

set_option maxRecDepth 100000 in
/-- A row of numbers that came in. -/
theorem open_listP {r : Reach} {b0 : Nat} {v : Value} {d : DataW H} {p : List MemPlace} (hv : Value.okWide Tryd.prog w r b0 24 v) (h : DataW.Trod enc Tryd.prog w base spare held 24 v d p) :
    ∃ (a : Option Addr) (zs : List Int) (cap : Nat), v = .slice a zs.length cap ∧ ListP w.heap.size w a zs := by
  have hc3 : Tryd.prog.cellsOf 3 = 1 := by kernel_rfl
  obtain ⟨a, len, cap, rfl⟩ := okWide_slice Tryd.underlying24 hv
  obtain ⟨fuel, hf⟩ := h
  rcases open_ints Tryd.underlying24 Tryd.underlying3 hc3 hf with ⟨hcs, _⟩ | ⟨a', len', cap', zs, hcs, _, hl, hm, hz, _, hcell, _⟩
  · simp [Value.cells] at hcs
    obtain ⟨rfl, rfl, rfl⟩ := hcs
    exact ⟨none, [], 0, rfl, fun j hj => absurd hj (by simp)⟩
  · simp [Value.cells] at hcs
    obtain ⟨rfl, rfl, rfl⟩ := hcs
    have hlz : len ≤ zs.length := by rw [hz]; split <;> omega
    have htl : (zs.take len).length = len := by simp; omega
    refine ⟨some a', zs.take len, cap, by rw [htl], fun j hj => ?_⟩
    rw [htl] at hj
    obtain ⟨b, off, e, hc⟩ := ints_at hcell (by omega)
    subst e
    refine ⟨b, off, rfl, World.block_lt_of_cell? w _ (hc j (by omega)), ?_⟩
    rw [hc j (by omega)]
    simp [List.getD_eq_getElem?_getD, hj]
end
end Go.Proofs.YtfifliepjmpgkaaDoor.Blk
