/-
  The document's Word, Uses, Bare of an operation.
-/
import Derived.Test.YtcdnbheoelnghaaDoorOpG
namespace Go.Proofs.YtcdnbheoelnghaaDoor.Opr
open Go.RowKit

theorem isK_no {k : Int} (h : isK k = false) : k ≠ 1 ∧ k ≠ 2 ∧ k ≠ 3 ∧ k ≠ 4 ∧ k ≠ 5 ∧ k ≠ 6 ∧ k ≠ 7 ∧ k ≠ 8 := by
  refine ⟨?_, ?_, ?_, ?_, ?_, ?_, ?_, ?_⟩ <;> rintro rfl <;> exact absurd h (by decide)
set_option maxHeartbeats 2000000 in
theorem refword_any (k : Int) (w : World) :
    Calls Tryd.prog 51 #[.int .i64 k] w fun e w' => e = .returned (.string (bs (wordI k))) ∧ w' = w := by
  cases h : isK k with
  | false =>
    have e : wordI k = [] := by simp [wordI, h]
    rw [e]
    have hn := isK_no h
    have q1 : (k == 1) = false := by rw [beq_eq_false_iff_ne]; omega
    have q2 : (k == 2) = false := by rw [beq_eq_false_iff_ne]; omega
    have q3 : (k == 3) = false := by rw [beq_eq_false_iff_ne]; omega
    have q4 : (k == 4) = false := by rw [beq_eq_false_iff_ne]; omega
    have q5 : (k == 5) = false := by rw [beq_eq_false_iff_ne]; omega
    have q6 : (k == 6) = false := by rw [beq_eq_false_iff_ne]; omega
    have q7 : (k == 7) = false := by rw [beq_eq_false_iff_ne]; omega
    have q8 : (k == 8) = false := by rw [beq_eq_false_iff_ne]; omega
    clear hn
    go_enter Tryd.func51, Tryd.ntmps51
    go_wp2
    go_ret
    exact ⟨rfl, rfl⟩
  | true =>
    rcases isK_cases h with rfl | rfl | rfl | rfl | rfl | rfl | rfl | rfl
    all_goals
      go_enter Tryd.func51, Tryd.ntmps51
      go_wp2
      go_ret
      exact ⟨rfl, rfl⟩

theorem wordI_ne {k : Int} (h : isK k = true) : wordI k ≠ [] := by
  rcases isK_cases h with rfl | rfl | rfl | rfl | rfl | rfl | rfl | rfl <;> decide
theorem bs_empty (l : List UInt8) : (bs l).toList.isEmpty = l.isEmpty := by rw [ByteArray.toList_eq]; rfl
theorem word_empty (k : Int) : (bs (wordI k)).toList.isEmpty = !isK k := by
  rw [bs_empty]
  cases h : isK k with
  | false =>
    have e : wordI k = [] := by simp [wordI, h]
    rw [e]; rfl
  | true =>
    have := wordI_ne h
    cases hw : wordI k with
    | nil => exact absurd hw this
    | cons _ _ => rfl

end Go.Proofs.YtcdnbheoelnghaaDoor.Opr
