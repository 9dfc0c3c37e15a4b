/-
  The document's answer for layer 2: Right, for every config.
-/
import Derived.Test.YtooojajagkbhiaaDoorConfigW
namespace Go.Proofs.YtooojajagkbhiaaDoor
open Go.RowKit

theorem rightB_ref (b wd m r ce lg st : Int) : rightB b wd m r ce lg st = refRightB b wd m r ce lg st := by
  have h : ∀ n lo hi : Int, lo ≤ hi → (n == nearI n lo hi) = withinB n lo hi := fun n lo hi hl => by
    unfold nearI withinB
    rw [Bool.eq_iff_iff]
    simp only [beq_iff_eq, Bool.and_eq_true, decide_eq_true_eq]
    (repeat' split) <;> omega
  simp only [rightB, refRightB, clampAt]
  simp only [h _ _ _ (show (1 : Int) ≤ 4096 by decide), h _ _ _ (show (16 : Int) ≤ 256 by decide), h _ _ _ (show (1 : Int) ≤ 8 by decide), h _ _ _ (show (1 : Int) ≤ 64 by decide), h _ _ _ (show (0 : Int) ≤ 64 by decide), h _ _ _ (show (1 : Int) ≤ 256 by decide), if_true, show ¬ (1 : Int) = 0 by decide, show ¬ (2 : Int) = 0 by decide, show ¬ (2 : Int) = 1 by decide, show ¬ (3 : Int) = 0 by decide, show ¬ (3 : Int) = 1 by decide, show ¬ (3 : Int) = 2 by decide, show ¬ (4 : Int) = 0 by decide, show ¬ (4 : Int) = 1 by decide, show ¬ (4 : Int) = 2 by decide, show ¬ (4 : Int) = 3 by decide, show ¬ (5 : Int) = 0 by decide, show ¬ (5 : Int) = 1 by decide, show ¬ (5 : Int) = 2 by decide, show ¬ (5 : Int) = 3 by decide, show ¬ (5 : Int) = 4 by decide, show ¬ (6 : Int) = 0 by decide, show ¬ (6 : Int) = 1 by decide, show ¬ (6 : Int) = 2 by decide, show ¬ (6 : Int) = 3 by decide, show ¬ (6 : Int) = 4 by decide, show ¬ (6 : Int) = 5 by decide, if_false]

theorem ret_bool {a b : Bool} (h : a = b) : Ending.returned (.bool a) = .returned (.bool b) := by rw [h]

theorem rightC_right {b wd m r ce lg st : Int} (h : RightC b wd m r ce lg st) : rightB b wd m r ce lg st = true := by
  rw [rightB_ref]; exact refRightB_true.2 h
end Go.Proofs.YtooojajagkbhiaaDoor
