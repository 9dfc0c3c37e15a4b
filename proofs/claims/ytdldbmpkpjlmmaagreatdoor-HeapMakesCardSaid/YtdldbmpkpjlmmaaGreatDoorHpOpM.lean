/-
  Opening what the law HeapMakes is given: a row of bytes.
-/
import Derived.Test.YtdldbmpkpjlmmaaGreatDoorBas
import Derived.Test.YtdldbmpkpjlmmaaGreatDoorBk2
import Derived.SizedLaws
import Derived.Deep.Slices
namespace Go.Proofs.YtdldbmpkpjlmmaaGreatDoor.Hp
open Go.ChangeShapes Go.WideShapes Go.ChangeAt Go.RowKit
open Blk (BytesP)

section
variable {H : Type} {enc : TypeId × Value → H} {w : World} {base : Nat} {spare : Nat → Bool} {held : Bool}
set_option maxRecDepth 100000 in
/-- A row of bytes that came in. -/
theorem open_bytes {r : Reach} {b0 : Nat} {v : Value} {d : DataW H} {p : List MemPlace} (hv : Value.okWide Tryz.prog w r b0 68 v) (h : DataW.Trod enc Tryz.prog w base spare held 68 v d p) :
    ∃ (a : Option Addr) (zs : List Nat) (cap : Nat), v = .slice a zs.length cap ∧ BytesP w.heap.size w a zs := by
  have hc3 : Tryz.prog.cellsOf 5 = 1 := by kernel_rfl
  obtain ⟨a, len, cap, rfl⟩ := okWide_slice Tryz.underlying68 hv
  obtain ⟨fuel, hf⟩ := h
  rcases open_ints Tryz.underlying68 Tryz.underlying5 hc3 hf with ⟨hcs, _⟩ | ⟨a', len', cap', zs, hcs, _, hl, hm, hz, hd, hcell, hwf⟩
  · simp [Value.cells] at hcs
    obtain ⟨rfl, rfl, rfl⟩ := hcs
    exact ⟨none, [], 0, rfl, fun j hj => absurd hj (by simp)⟩
  · simp [Value.cells] at hcs
    obtain ⟨rfl, rfl, rfl⟩ := hcs
    have hlz : len ≤ zs.length := by rw [hz]; split <;> omega
    have htl : ((zs.take len).map Int.toNat).length = len := by simp; omega
    refine ⟨some a', (zs.take len).map Int.toNat, cap, by rw [htl], fun j hj => ?_⟩
    rw [htl] at hj
    obtain ⟨b, off, e, hc⟩ := ints_at hcell (by omega)
    subst e
    have hjz : j < zs.length := by omega
    have hb := bounds_u8 (hwf zs[j] (List.getElem_mem hjz))
    have hg : ((zs.take len).map Int.toNat).getD j 0 = zs[j].toNat := by simp [List.getD_eq_getElem?_getD, hj, hjz]
    refine ⟨b, off, rfl, World.block_lt_of_cell? w _ (hc j hjz), by rw [hg]; omega, ?_⟩
    rw [hc j hjz, hg, Int.toNat_of_nonneg hb.1]
    simp [List.getD_eq_getElem?_getD, hjz]
end
end Go.Proofs.YtdldbmpkpjlmmaaGreatDoor.Hp
