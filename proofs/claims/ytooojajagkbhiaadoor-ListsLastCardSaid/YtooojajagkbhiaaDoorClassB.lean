/-
  class.Of and the document's answers for layer 3 (Is, Size, Of, Per), for every argument.
-/
import Derived.Test.YtooojajagkbhiaaDoorClassA
namespace Go.Proofs.YtooojajagkbhiaaDoor.Class
open Go.RowKit

/-- The class of an object. -/
def clsI (f : Int) : Int := if f ≤ 1 then 0 else if f ≤ 3 then 1 else if f ≤ 7 then 2 else 3
theorem isB_nat {c : Nat} (h : c ≤ 3) : isB (c : Int) = true := isB_true.2 ⟨by omega, by omega⟩
theorem room_nat {c : Nat} (h : c ≤ 3) : roomI (c : Int) = if c = 0 then 1 else if c = 1 then 3 else if c = 2 then 7 else 15 := by
  rw [roomI_yes (isB_nat h)]
  have : c = 0 ∨ c = 1 ∨ c = 2 ∨ c = 3 := by omega
  rcases this with rfl | rfl | rfl | rfl <;> rfl

/-- A size, by doubling. -/
def dbl (i : Nat) : Int := if i = 0 then 2 else if i = 1 then 4 else if i = 2 then 8 else 16
theorem dbl_siz {k : Nat} (h : k ≤ 3) : dbl k = sizI k := by
  have : k = 0 ∨ k = 1 ∨ k = 2 ∨ k = 3 := by omega
  rcases this with rfl | rfl | rfl | rfl <;> rfl

theorem siz_nat {c : Nat} (h : c ≤ 3) : sizI (c : Int) = if c = 0 then 2 else if c = 1 then 4 else if c = 2 then 8 else 16 := (dbl_siz h).symm

theorem per_step {n k : Int} (hk : isB k = true) (_hn : wordsB n = true) {c : Nat} (hc : ((c : Int) + 1) * sizI k ≤ n) : ((c + 1 : Nat) : Int) ≤ n / sizI k := by
  obtain ⟨hs0, hs1⟩ := sizI_bd hk
  rw [Int.le_ediv_iff_mul_le (by omega)]
  exact hc
theorem per_end {n k : Int} (hk : isB k = true) (_hn : wordsB n = true) {c : Nat} (h0 : (c : Int) ≤ n / sizI k) (hc : n < ((c : Int) + 1) * sizI k) : (c : Int) = n / sizI k := by
  obtain ⟨hs0, hs1⟩ := sizI_bd hk
  have := Int.ediv_lt_of_lt_mul (show 0 < sizI k by omega) hc
  omega
theorem per_mul {n k : Int} (hk : isB k = true) (hn : wordsB n = true) {c : Nat} (h0 : (c : Int) ≤ n / sizI k) : 0 ≤ ((c : Int) + 1) * sizI k ∧ ((c : Int) + 1) * sizI k ≤ 100000 := by
  obtain ⟨hs0, hs1⟩ := sizI_bd hk
  obtain ⟨hn0, hn1⟩ := wordsB_true.1 hn
  have h1 : n / sizI k ≤ 256 := Int.le_trans (Int.ediv_le_self _ (by omega)) hn1
  refine ⟨Int.mul_nonneg (by omega) (by omega), Int.le_trans (Int.mul_le_mul (show (c : Int) + 1 ≤ 257 by omega) hs1 (by omega) (by omega)) (by decide)⟩

end Go.Proofs.YtooojajagkbhiaaDoor.Class
