/-
  The document's answers for layer 2: Right, Clamp, Slots, Op, Answer, for every config (the last three: of right ones).
-/
import Derived.Test.YtahhenbphnejiaaDoorConfigD
namespace Go.Proofs.YtahhenbphnejiaaDoor
open Go.RowKit

theorem rightB_ref (b wd m r ce lg st : Int) : rightB b wd m r ce lg st = refRightB b wd m r ce lg st := by
  have h : ∀ n lo hi : Int, lo ≤ hi → (n == nearI n lo hi) = withinB n lo hi := fun n lo hi hl => by
    unfold nearI withinB
    rw [Bool.eq_iff_iff]
    simp only [beq_iff_eq, Bool.and_eq_true, decide_eq_true_eq]
    (repeat' split) <;> omega
  simp only [rightB, refRightB, clampAt]
  simp only [h _ _ _ (show (1 : Int) ≤ 4096 by decide), h _ _ _ (show (16 : Int) ≤ 256 by decide), h _ _ _ (show (1 : Int) ≤ 8 by decide), h _ _ _ (show (1 : Int) ≤ 64 by decide), h _ _ _ (show (0 : Int) ≤ 64 by decide), h _ _ _ (show (1 : Int) ≤ 256 by decide), if_true, show ¬ (1 : Int) = 0 by decide, show ¬ (2 : Int) = 0 by decide, show ¬ (2 : Int) = 1 by decide, show ¬ (3 : Int) = 0 by decide, show ¬ (3 : Int) = 1 by decide, show ¬ (3 : Int) = 2 by decide, show ¬ (4 : Int) = 0 by decide, show ¬ (4 : Int) = 1 by decide, show ¬ (4 : Int) = 2 by decide, show ¬ (4 : Int) = 3 by decide, show ¬ (5 : Int) = 0 by decide, show ¬ (5 : Int) = 1 by decide, show ¬ (5 : Int) = 2 by decide, show ¬ (5 : Int) = 3 by decide, show ¬ (5 : Int) = 4 by decide, show ¬ (6 : Int) = 0 by decide, show ¬ (6 : Int) = 1 by decide, show ¬ (6 : Int) = 2 by decide, show ¬ (6 : Int) = 3 by decide, show ¬ (6 : Int) = 4 by decide, show ¬ (6 : Int) = 5 by decide, if_false]

theorem ret_bool {a b : Bool} (h : a = b) : Ending.returned (.bool a) = .returned (.bool b) := by rw [h]

set_option maxHeartbeats 400000 in
theorem within_any (n lo hi : Int) (w : World) :
    Calls Tryd.prog 53 #[.int .i64 n, .int .i64 lo, .int .i64 hi] w fun e w' => e = .returned (.bool (withinB n lo hi)) ∧ w' = w := by
  by_cases h1 : lo ≤ n
  · by_cases h2 : n ≤ hi
    · have e : withinB n lo hi = true := by simp [withinB, h1, h2]
      rw [e]
      clear e
      go_enter Tryd.func53, Tryd.ntmps53
      go_wp2
      go_ret
      exact ⟨rfl, rfl⟩
    · have e : withinB n lo hi = false := by simp [withinB, h2]
      rw [e]
      clear e
      go_enter Tryd.func53, Tryd.ntmps53
      go_wp2
      go_ret
      exact ⟨rfl, rfl⟩
  · have e : withinB n lo hi = false := by simp [withinB, h1]
    rw [e]
    clear e
    go_enter Tryd.func53, Tryd.ntmps53
    go_wp2
    go_ret
    exact ⟨rfl, rfl⟩

set_option maxHeartbeats 400000 in
theorem near_any (n lo hi : Int) (hl : lo ≤ hi) (w : World) :
    Calls Tryd.prog 56 #[.int .i64 n, .int .i64 lo, .int .i64 hi] w fun e w' => e = .returned (.int .i64 (nearI n lo hi)) ∧ w' = w := by
  go_enter Tryd.func56, Tryd.ntmps56
  go_wp2
  all_goals go_ret
  all_goals (refine ⟨ret_int ?_, rfl⟩; unfold nearI; (repeat' split) <;> omega)

set_option maxHeartbeats 2000000 in
theorem refright_any (b wd m r ce lg st : Int) (w : World) :
    Calls Tryd.prog 30 #[.agg #[.int .i64 b, .int .i64 wd, .int .i64 m, .int .i64 r, .int .i64 ce, .int .i64 lg, .int .i64 st]] w fun e w' => e = .returned (.bool (refRightB b wd m r ce lg st)) ∧ Below w.heap.size w w' := by
  go_enter Tryd.func30, Tryd.ntmps30
  go_wp2_with (go_at_call 53; refine (within_any _ _ _ _).mono ?_; rintro e w' ⟨rfl, hw⟩; rw [hw]; clear hw)
  all_goals go_ret
  all_goals exact ⟨ret_bool (by simp [refRightB, *]), (Below.refl _ _).alloc (Nat.le_refl _) _⟩

set_option maxHeartbeats 2000000 in
theorem refclamp_any (b wd m r ce lg st : Int) (w : World) :
    Calls Tryd.prog 32 #[.agg #[.int .i64 b, .int .i64 wd, .int .i64 m, .int .i64 r, .int .i64 ce, .int .i64 lg, .int .i64 st]] w fun e w' => e = .returned (clampV b wd m r ce lg st) ∧ Below w.heap.size w w' := by
  go_enter Tryd.func32, Tryd.ntmps32
  go_wp2
  go_region_held3 (fun w' => w'.cell? ⟨w.heap.size, 0, none⟩ = some (.int .i64 b) ∧ w'.cell? ⟨w.heap.size, 1, none⟩ = some (.int .i64 wd) ∧ w'.cell? ⟨w.heap.size, 2, none⟩ = some (.int .i64 m)
     ∧ w'.cell? ⟨w.heap.size, 3, none⟩ = some (.int .i64 r) ∧ w'.cell? ⟨w.heap.size, 4, none⟩ = some (.int .i64 ce) ∧ w'.cell? ⟨w.heap.size, 5, none⟩ = some (.int .i64 lg) ∧ w'.cell? ⟨w.heap.size, 6, none⟩ = some (.int .i64 st)) (go_keep)
    (first
      | (go_at_call 56; refine (near_any _ _ _ (by decide) _).mono ?_; rintro e w' ⟨rfl, rfl⟩))
  rename_i hheld
  clear hheld
  go_wp2
  refine bodyPost_ret (v := clampV b wd m r ce lg st) (by simp [results, Tryd.results32, go_sem, clampV, clampAt]) rfl ⟨rfl, ?_⟩
  exact below_drew (((Below.refl w.heap.size w).alloc (Nat.le_refl _) _).alloc (by simp) _)

set_option maxHeartbeats 400000 in
theorem refslots_any (b wd m r ce lg st : Int) (w : World) (hR : RightC b wd m r ce lg st) :
    Calls Tryd.prog 38 #[.agg #[.int .i64 b, .int .i64 wd, .int .i64 m, .int .i64 r, .int .i64 ce, .int .i64 lg, .int .i64 st]] w fun e w' => e = .returned (.int .i64 (slotsI b wd)) ∧ Below w.heap.size w w' := by
  obtain ⟨p0, p1⟩ := hR.slots
  obtain ⟨b0, b1, wd0, wd1, m0, m1, r0, r1, ce0, ce1, lg0, lg1, st0, st1⟩ := hR
  go_enter Tryd.func38, Tryd.ntmps38
  go_wp2
  go_ret
  exact ⟨ret_int (by first | rfl | (simp only [slotsI, opI, ansI]; done) | (simp only [slotsI, opI, ansI]; omega)), (Below.refl _ _).alloc (Nat.le_refl _) _⟩

set_option maxHeartbeats 400000 in
theorem refop_any (b wd m r ce lg st : Int) (w : World) (hR : RightC b wd m r ce lg st) :
    Calls Tryd.prog 39 #[.agg #[.int .i64 b, .int .i64 wd, .int .i64 m, .int .i64 r, .int .i64 ce, .int .i64 lg, .int .i64 st]] w fun e w' => e = .returned (.int .i64 (opI lg wd)) ∧ Below w.heap.size w w' := by
  skip
  obtain ⟨b0, b1, wd0, wd1, m0, m1, r0, r1, ce0, ce1, lg0, lg1, st0, st1⟩ := hR
  go_enter Tryd.func39, Tryd.ntmps39
  go_wp2
  go_ret
  exact ⟨ret_int (by first | rfl | (simp only [slotsI, opI, ansI]; done) | (simp only [slotsI, opI, ansI]; omega)), (Below.refl _ _).alloc (Nat.le_refl _) _⟩

set_option maxHeartbeats 400000 in
theorem refans_any (b wd m r ce lg st : Int) (w : World) (hR : RightC b wd m r ce lg st) :
    Calls Tryd.prog 40 #[.agg #[.int .i64 b, .int .i64 wd, .int .i64 m, .int .i64 r, .int .i64 ce, .int .i64 lg, .int .i64 st]] w fun e w' => e = .returned (.int .i64 (ansI r lg)) ∧ Below w.heap.size w w' := by
  obtain ⟨p0, p1⟩ := hR.regs
  obtain ⟨b0, b1, wd0, wd1, m0, m1, r0, r1, ce0, ce1, lg0, lg1, st0, st1⟩ := hR
  go_enter Tryd.func40, Tryd.ntmps40
  go_wp2
  go_ret
  exact ⟨ret_int (by first | rfl | (simp only [slotsI, opI, ansI]; done) | (simp only [slotsI, opI, ansI]; omega)), (Below.refl _ _).alloc (Nat.le_refl _) _⟩

end Go.Proofs.YtahhenbphnejiaaDoor
