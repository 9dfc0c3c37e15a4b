/-
  config.Words, of right configs and of others, wherever the table of limits lies as it was laid.
-/
import Derived.Test.YtooojajagkbhiaaDoorConfigB
import Derived.Test.YtooojajagkbhiaaDoorCfgMath
namespace Go.Proofs.YtooojajagkbhiaaDoor
open Go.RowKit

/-- A world later than one with the table has the table. -/
theorem LimTab.later {w w' : World} (h : LimTab w) (hb : Below w.heap.size w w') : LimTab w' := h.below hb h.blk

set_option maxHeartbeats 400000 in
theorem words_no (b wd m r ce lg st : Int) (w : World) (ht : LimTab w) (hr : rightB b wd m r ce lg st = false) :
    Calls Tryd.prog 46 #[.agg #[.int .i64 b, .int .i64 wd, .int .i64 m, .int .i64 r, .int .i64 ce, .int .i64 lg, .int .i64 st]] w
      fun e w' => e = .returned (.int .i64 0) ∧ Below w.heap.size w w' := by
  go_enter Tryd.func46, Tryd.ntmps46
  go_wp2_with (first | (go_at_call 63; go_in) | (go_at_call 44; refine (right_any _ _ _ _ _ _ _ _ (by repeat (first | exact ht | apply LimTab.drewN | apply LimTab.drew | apply LimTab.alloc | (refine LimTab.later ?_ (by assumption))))).mono ?_; rintro e w' ⟨rfl, hb⟩; rw [hr]))
  go_ret
  exact ⟨rfl, (((Below.refl _ _).alloc (Nat.le_refl _) _).alloc (by simp) _).trans (hb.mono (by simp; omega))⟩

set_option maxHeartbeats 400000 in
theorem words_yes (b wd m r ce lg st : Int) (w : World) (ht : LimTab w) (hR : RightC b wd m r ce lg st) (hr : rightB b wd m r ce lg st = true) :
    Calls Tryd.prog 46 #[.agg #[.int .i64 b, .int .i64 wd, .int .i64 m, .int .i64 r, .int .i64 ce, .int .i64 lg, .int .i64 st]] w
      fun e w' => e = .returned (.int .i64 (b * wd)) ∧ Below w.heap.size w w' := by
  obtain ⟨p0, p1⟩ := hR.words
  obtain ⟨b0, b1, wd0, wd1, m0, m1, r0, r1, ce0, ce1, lg0, lg1, st0, st1⟩ := hR
  go_enter Tryd.func46, Tryd.ntmps46
  go_wp2_with (first | (go_at_call 63; go_in) | (go_at_call 64; go_in) | (go_at_call 44; refine (right_any _ _ _ _ _ _ _ _ (by repeat (first | exact ht | apply LimTab.drewN | apply LimTab.drew | apply LimTab.alloc | (refine LimTab.later ?_ (by assumption))))).mono ?_; rintro e w' ⟨rfl, hb⟩; rw [hr]; obtain ⟨hc, hf⟩ := bcell hb))
  go_ret
  exact ⟨ret_int (by first | rfl | (simp only [slotsI, opI, ansI]; done) | (simp only [slotsI, opI, ansI]; omega)), (((Below.refl _ _).alloc (Nat.le_refl _) _).alloc (by simp) _).trans (hb.mono (by simp; omega))⟩

end Go.Proofs.YtooojajagkbhiaaDoor
