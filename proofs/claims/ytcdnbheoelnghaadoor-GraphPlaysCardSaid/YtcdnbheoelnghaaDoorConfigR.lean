/-
  The document's answer for layer 2: Right, for every config.
-/
import Derived.Test.YtcdnbheoelnghaaDoorConfigW
namespace Go.Proofs.YtcdnbheoelnghaaDoor
open Go.RowKit

theorem rightB_ref (b wd m r ce lg st : Int) : rightB b wd m r ce lg st = refRightB b wd m r ce lg st := by
  have h : ∀ n lo hi : Int, lo ≤ hi → (n == nearI n lo hi) = withinB n lo hi := fun n lo hi hl => by
    unfold nearI withinB
    rw [Bool.eq_iff_iff]
    simp only [beq_iff_eq, Bool.and_eq_true, decide_eq_true_eq]
    (repeat' split) <;> omega
  simp only [rightB, refRightB, clampAt]
  simp only [h _ _ _ (show (1 : Int) ≤ 4096 by decide), h _ _ _ (show (16 : Int) ≤ 256 by decide), h _ _ _ (show (1 : Int) ≤ 8 by decide), h _ _ _ (show (1 : Int) ≤ 64 by decide), h _ _ _ (show (0 : Int) ≤ 64 by decide), h _ _ _ (show (1 : Int) ≤ 256 by decide), if_true, show ¬ (1 : Int) = 0 by decide, show ¬ (2 : Int) = 0 by decide, show ¬ (2 : Int) = 1 by decide, show ¬ (3 : Int) = 0 by decide, show ¬ (3 : Int) = 1 by decide, show ¬ (3 : Int) = 2 by decide, show ¬ (4 : Int) = 0 by decide, show ¬ (4 : Int) = 1 by decide, show ¬ (4 : Int) = 2 by decide, show ¬ (4 : Int) = 3 by decide, show ¬ (5 : Int) = 0 by decide, show ¬ (5 : Int) = 1 by decide, show ¬ (5 : Int) = 2 by decide, show ¬ (5 : Int) = 3 by decide, show ¬ (5 : Int) = 4 by decide, show ¬ (6 : Int) = 0 by decide, show ¬ (6 : Int) = 1 by decide, show ¬ (6 : Int) = 2 by decide, show ¬ (6 : Int) = 3 by decide, show ¬ (6 : Int) = 4 by decide, show ¬ (6 : Int) = 5 by decide, if_false]

theorem ret_bool {a b : Bool} (h : a = b) : Ending.returned (.bool a) = .returned (.bool b) := by rw [h]

set_option maxHeartbeats 400000 in
theorem within_any (n lo hi : Int) (w : World) :
    Calls Tryd.prog 62 #[.int .i64 n, .int .i64 lo, .int .i64 hi] w fun e w' => e = .returned (.bool (withinB n lo hi)) ∧ w' = w := by
  by_cases h1 : lo ≤ n
  · by_cases h2 : n ≤ hi
    · have e : withinB n lo hi = true := by simp [withinB, h1, h2]
      rw [e]
      clear e
      go_enter Tryd.func62, Tryd.ntmps62
      go_wp2
      go_ret
      exact ⟨rfl, rfl⟩
    · have e : withinB n lo hi = false := by simp [withinB, h2]
      rw [e]
      clear e
      go_enter Tryd.func62, Tryd.ntmps62
      go_wp2
      go_ret
      exact ⟨rfl, rfl⟩
  · have e : withinB n lo hi = false := by simp [withinB, h1]
    rw [e]
    clear e
    go_enter Tryd.func62, Tryd.ntmps62
    go_wp2
    go_ret
    exact ⟨rfl, rfl⟩

set_option maxHeartbeats 2000000 in
theorem refright_any (b wd m r ce lg st : Int) (w : World) :
    Calls Tryd.prog 50 #[.agg #[.int .i64 b, .int .i64 wd, .int .i64 m, .int .i64 r, .int .i64 ce, .int .i64 lg, .int .i64 st]] w fun e w' => e = .returned (.bool (refRightB b wd m r ce lg st)) ∧ Below w.heap.size w w' := by
  go_enter Tryd.func50, Tryd.ntmps50
  go_wp2_with (go_at_call 62; refine (within_any _ _ _ _).mono ?_; rintro e w' ⟨rfl, hw⟩; rw [hw]; clear hw)
  all_goals go_ret
  all_goals exact ⟨ret_bool (by simp [refRightB, *]), (Below.refl _ _).alloc (Nat.le_refl _) _⟩

theorem rightC_right {b wd m r ce lg st : Int} (h : RightC b wd m r ce lg st) : rightB b wd m r ce lg st = true := by
  rw [rightB_ref]; exact refRightB_true.2 h
end Go.Proofs.YtcdnbheoelnghaaDoor
