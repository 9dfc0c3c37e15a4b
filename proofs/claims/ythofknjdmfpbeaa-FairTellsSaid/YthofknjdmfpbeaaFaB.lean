/-
  counter, and the function that it answers: who is missing in a window, and in the next one.
-/
import Derived.Test.YthofknjdmfpbeaaFaA
import Derived.Laws.EntriesVeiled
namespace Go.Proofs.Ythofknjdmfpbeaa.Fa
open Go.RowKit
open Go.Proofs.Ythofknjdmfpbeaa.Row

/-- Cells that are all 0. -/
def zeroInts (n : Nat) : Array Value := madeCells #[.int .i64 0] n
theorem zeroInts_list (n : Nat) : (zeroInts n).toList = cellsZ (List.replicate n 0) := by
  unfold zeroInts
  rw [toList_madeCells_one]
  simp [cellsZ]
theorem zeroInts_at (n : Nat) {p : Nat} (h : p < n) : (zeroInts n)[p]? = some (.int .i64 0) := by
  rw [← Array.getElem?_toList, zeroInts_list]
  simp [cellsZ, h]
theorem make_ints (n : Nat) (h : n ≤ 1048576) (W : World) :
    (Instr.makeSlice 22 (.int .i64 (n : Int)) (.int .i64 (n : Int))).run Try.prog W = .ok (.slice (some ⟨W.heap.size, 0, none⟩) n n) (W.alloc (.cells (zeroInts n) 3)) := by
  obtain ⟨i, hi, hz, hs, hb⟩ := info_parts infoInt
  have hr := run_make (P := Try.prog) W 22 3 i (.int .i64 0) Try.underlying22 hi hz .i64 .i64 n n (by omega) (by omega) (by rw [hb]; omega) (by omega)
  simp only [Int.toNat_natCast, hs, Nat.mul_one] at hr
  exact hr

theorem cell_last {W : World} {Z : Array Value} {t : TypeId} {a p : Nat} {v : Value} (h : a = W.heap.size) (hv : Z[p]? = some v) : (W.alloc (.cells Z t)).cell? ⟨a, p, none⟩ = some v := by subst h; simp [hv]
theorem cell_old {W : World} {o : Obj} {a p : Nat} {v : Value} (h : a < W.heap.size) (hv : W.cell? ⟨a, p, none⟩ = some v) : (W.alloc o).cell? ⟨a, p, none⟩ = some v := (cell_of_block (a := ⟨a, p, none⟩) (Below.heap_alloc _ _ _ h)).trans hv
theorem froz_last {W : World} {Z : Array Value} {t : TypeId} {a p : Nat} (h : a = W.heap.size) : (W.alloc (.cells Z t)).frozen? ⟨a, p, none⟩ = false := by subst h; simp
theorem froz_old {W : World} {o : Obj} {a p : Nat} (h : a < W.heap.size) (hv : W.frozen? ⟨a, p, none⟩ = false) : (W.alloc o).frozen? ⟨a, p, none⟩ = false := (frozen_of_block (a := ⟨a, p, none⟩) (Below.heap_alloc _ _ _ h)).trans hv

theorem counter_any (n : Nat) (w : World) (h1 : 1 ≤ n) (h2 : n ≤ 1048576) : Calls Try.prog 16 #[.int .i64 n] w fun e w' => ∃ b1 b2 b3 b4 b5, e = .returned (.func (.func 25) #[] #[.pointer (some ⟨b5, 0, none⟩), .pointer (some ⟨b4, 0, none⟩), .pointer (some ⟨b3, 0, none⟩)]) ∧
    Ct w' w.heap.size b1 b2 b3 b4 b5 n [] (.slice none 0 0) ∧ Below w.heap.size w w' := by
  have hmk := make_ints n h2
  have hat := Lib.hid (fun p => @zeroInts_at n p)
  generalize zeroInts n = Z at *
  go_enter Try.func16, Try.ntmps16
  go_wp2
  go_ret
  refine ⟨_, _, _, _, _, rfl, ⟨⟨rfl, rfl, rfl, rfl, rfl⟩, ⟨h1, h2⟩, ?c0, ?c2, ?row, ?rf, ?c3, ?f3, ?c4, ?c5, ?f5⟩, ((((((Below.refl _ _).alloc (Nat.le_refl _) _).alloc (by simp) _).alloc (by simp; omega) _).alloc (by simp; omega) _).alloc (by simp; omega) _).alloc (by simp; omega) _⟩
  case c0 => exact cell_old (by simp; omega) (cell_old (by simp; omega) (cell_old (by simp; omega) (cell_old (by simp; omega) (cell_old (by simp) (cell_last rfl rfl)))))
  case c2 => exact cell_old (by simp) (cell_old (by simp) (cell_old (by simp) (cell_last (by simp) rfl)))
  case row => exact fun p hp => cell_old (by first | (simp; done) | (simp; omega)) (cell_old (by first | (simp; done) | (simp; omega)) (cell_old (by first | (simp; done) | (simp; omega)) (cell_old (by simp) (cell_last (by simp) (hat.out p hp)))))
  case rf => exact fun p hp => froz_old (by first | (simp; done) | (simp; omega)) (froz_old (by first | (simp; done) | (simp; omega)) (froz_old (by first | (simp; done) | (simp; omega)) (froz_old (by simp) (froz_last (by simp)))))
  case c3 => rw [mis_nil]; exact cell_old (by simp) (cell_old (by simp) (cell_last (by simp) rfl))
  case f3 => exact froz_old (by simp) (froz_old (by simp) (froz_last (by simp)))
  case c4 => exact cell_old (by simp) (cell_last (by simp) rfl)
  case c5 => exact cell_last (by simp) rfl
  case f5 => exact froz_last (by simp)
end Go.Proofs.Ythofknjdmfpbeaa.Fa
