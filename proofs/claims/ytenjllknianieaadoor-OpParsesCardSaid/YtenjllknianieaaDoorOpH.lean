/-
  The document's Word, Uses, Bare of an operation.
-/
import Derived.Test.YtenjllknianieaaDoorOpG
namespace Go.Proofs.YtenjllknianieaaDoor.Opr
open Go.RowKit

theorem isK_no {k : Int} (h : isK k = false) : k ≠ 1 ∧ k ≠ 2 ∧ k ≠ 3 ∧ k ≠ 4 ∧ k ≠ 5 ∧ k ≠ 6 ∧ k ≠ 7 ∧ k ≠ 8 := by
  refine ⟨?_, ?_, ?_, ?_, ?_, ?_, ?_, ?_⟩ <;> rintro rfl <;> exact absurd h (by decide)
set_option maxHeartbeats 2000000 in
theorem refword_any (k : Int) (w : World) :
    Calls Tryd.prog 17 #[.int .i64 k] w fun e w' => e = .returned (.string (bs (wordI k))) ∧ w' = w := by
  cases h : isK k with
  | false =>
    have e : wordI k = [] := by simp [wordI, h]
    rw [e]
    have hn := isK_no h
    have q1 : (k == 1) = false := by rw [beq_eq_false_iff_ne]; omega
    have q2 : (k == 2) = false := by rw [beq_eq_false_iff_ne]; omega
    have q3 : (k == 3) = false := by rw [beq_eq_false_iff_ne]; omega
    have q4 : (k == 4) = false := by rw [beq_eq_false_iff_ne]; omega
    have q5 : (k == 5) = false := by rw [beq_eq_false_iff_ne]; omega
    have q6 : (k == 6) = false := by rw [beq_eq_false_iff_ne]; omega
    have q7 : (k == 7) = false := by rw [beq_eq_false_iff_ne]; omega
    have q8 : (k == 8) = false := by rw [beq_eq_false_iff_ne]; omega
    clear hn
    go_enter Tryd.func17, Tryd.ntmps17
    go_wp2
    go_ret
    exact ⟨rfl, rfl⟩
  | true =>
    rcases isK_cases h with rfl | rfl | rfl | rfl | rfl | rfl | rfl | rfl
    all_goals
      go_enter Tryd.func17, Tryd.ntmps17
      go_wp2
      go_ret
      exact ⟨rfl, rfl⟩

set_option maxHeartbeats 2000000 in
theorem refuses_any (k : Int) (w : World) :
    Calls Tryd.prog 19 #[.int .i64 k] w fun e w' => e = .returned (.int .i64 (usesI k)) ∧ w' = w := by
  cases h : isK k with
  | false =>
    have e : usesI k = 0 := by simp [usesI, h]
    rw [e]
    have hn := isK_no h
    have q1 : (k == 1) = false := by rw [beq_eq_false_iff_ne]; omega
    have q2 : (k == 2) = false := by rw [beq_eq_false_iff_ne]; omega
    have q3 : (k == 3) = false := by rw [beq_eq_false_iff_ne]; omega
    have q4 : (k == 4) = false := by rw [beq_eq_false_iff_ne]; omega
    have q5 : (k == 5) = false := by rw [beq_eq_false_iff_ne]; omega
    have q6 : (k == 6) = false := by rw [beq_eq_false_iff_ne]; omega
    have q7 : (k == 7) = false := by rw [beq_eq_false_iff_ne]; omega
    have q8 : (k == 8) = false := by rw [beq_eq_false_iff_ne]; omega
    clear hn
    go_enter Tryd.func19, Tryd.ntmps19
    go_wp2
    go_ret
    exact ⟨rfl, rfl⟩
  | true =>
    rcases isK_cases h with rfl | rfl | rfl | rfl | rfl | rfl | rfl | rfl
    all_goals
      go_enter Tryd.func19, Tryd.ntmps19
      go_wp2
      go_ret
      exact ⟨rfl, rfl⟩

theorem wordI_ne {k : Int} (h : isK k = true) : wordI k ≠ [] := by
  rcases isK_cases h with rfl | rfl | rfl | rfl | rfl | rfl | rfl | rfl <;> decide
theorem bs_empty (l : List UInt8) : (bs l).toList.isEmpty = l.isEmpty := by rw [ByteArray.toList_eq]; rfl
theorem word_empty (k : Int) : (bs (wordI k)).toList.isEmpty = !isK k := by
  rw [bs_empty]
  cases h : isK k with
  | false =>
    have e : wordI k = [] := by simp [wordI, h]
    rw [e]; rfl
  | true =>
    have := wordI_ne h
    cases hw : wordI k with
    | nil => exact absurd hw this
    | cons _ _ => rfl

set_option maxRecDepth 100000 in
set_option maxHeartbeats 4000000 in
theorem refbare_any (k a b c : Int) (w : World) :
    Calls Tryd.prog 15 #[.agg #[.int .i64 k, .int .i64 a, .int .i64 b, .int .i64 c]] w fun e w' => e = .returned (bareV k a b c) ∧ Below w.heap.size w w' := by
  have HU := Lib.hid (refuses_any k)
  have HW := Lib.hid (refword_any k)
  have hA : Below w.heap.size w (((w.alloc (.cells #[.int .i64 k, .int .i64 a, .int .i64 b, .int .i64 c] 23)).alloc (.cells #[.int .i64 0, .int .i64 0, .int .i64 0, .int .i64 0] 23)).alloc (.cells #[.int .i64 0, .int .i64 0, .int .i64 0, .int .i64 0] 23)) := (((Below.refl _ _).alloc (Nat.le_refl _) _).alloc (by simp) _).alloc (by simp; omega) _
  have HA := Lib.hid hA
  clear hA
  have hwe := word_empty k
  cases h : isK k with
  | false =>
    rw [bareV_no h]
    rw [h] at hwe
    simp only [Bool.not_false] at hwe
    go_enter Tryd.func15, Tryd.ntmps15
    go_wp2_with (go_at_call 17; refine (HW.out _).mono ?_; rintro e w' ⟨rfl, rfl⟩)
    exact bodyPost_ret (v := opV 0 0 0 0) (by simp [results, Tryd.results15, go_sem, opV]) rfl ⟨rfl, by
      have h1 := (((Below.refl w.heap.size w).alloc (Nat.le_refl _) (.cells #[.int .i64 k, .int .i64 a, .int .i64 b, .int .i64 c] 23)).alloc (by simp) (.cells #[.int .i64 0, .int .i64 0, .int .i64 0, .int .i64 0] 23)).alloc (by simp; omega) (.cells #[.int .i64 0, .int .i64 0, .int .i64 0, .int .i64 0] 23)
      exact h1⟩
  | true =>
    rw [bareV_yes h]
    rw [h] at hwe
    simp only [Bool.not_true] at hwe
    have hu := usesI_le k
    clear h
    generalize usesI k = u at *
    have hu4 : u = 0 ∨ u = 1 ∨ u = 2 ∨ u = 3 := by omega
    rcases hu4 with rfl | rfl | rfl | rfl
    all_goals
      go_enter Tryd.func15, Tryd.ntmps15
      go_wp2_with (first
        | (go_at_call 17; refine (HW.out _).mono ?_; rintro e w' ⟨rfl, rfl⟩)
        | (go_at_call 19; refine (HU.out _).mono ?_; rintro e w' ⟨rfl, rfl⟩))
    · exact bodyPost_ret (v := opV k 0 0 0) (by simp [results, Tryd.results15, go_sem, opV]) rfl ⟨rfl, (((Below.refl _ _).alloc (Nat.le_refl _) _).alloc (by simp) _).alloc (by simp; omega) _⟩
    · exact bodyPost_ret (v := opV k a 0 0) (by simp [results, Tryd.results15, go_sem, opV]) rfl ⟨rfl, (((Below.refl _ _).alloc (Nat.le_refl _) _).alloc (by simp) _).alloc (by simp; omega) _⟩
    · exact bodyPost_ret (v := opV k a b 0) (by simp [results, Tryd.results15, go_sem, opV]) rfl ⟨rfl, (((Below.refl _ _).alloc (Nat.le_refl _) _).alloc (by simp) _).alloc (by simp; omega) _⟩
    · exact bodyPost_ret (v := opV k a b c) (by simp [results, Tryd.results15, go_sem, opV]) rfl ⟨rfl, (((Below.refl _ _).alloc (Nat.le_refl _) _).alloc (by simp) _).alloc (by simp; omega) _⟩
end Go.Proofs.YtenjllknianieaaDoor.Opr
