/-
  config.Words, Slots, OpPicks, AnswerPicks, marking and resting, of right configs and of others, wherever the table of limits lies as it was laid.
-/
import Derived.Test.YtahhenbphnejiaaDoorConfigB
import Derived.Test.YtahhenbphnejiaaDoorCfgMath
namespace Go.Proofs.YtahhenbphnejiaaDoor
open Go.RowKit

/-- A world later than one with the table has the table. -/
theorem LimTab.later {w w' : World} (h : LimTab w) (hb : Below w.heap.size w w') : LimTab w' := h.below hb h.blk

set_option maxHeartbeats 400000 in
theorem words_no (b wd m r ce lg st : Int) (w : World) (ht : LimTab w) (hr : rightB b wd m r ce lg st = false) :
    Calls Tryd.prog 33 #[.agg #[.int .i64 b, .int .i64 wd, .int .i64 m, .int .i64 r, .int .i64 ce, .int .i64 lg, .int .i64 st]] w
      fun e w' => e = .returned (.int .i64 0) ∧ Below w.heap.size w w' := by
  go_enter Tryd.func33, Tryd.ntmps33
  go_wp2_with (first | (go_at_call 57; go_in) | (go_at_call 29; refine (right_any _ _ _ _ _ _ _ _ (by repeat (first | exact ht | apply LimTab.drewN | apply LimTab.drew | apply LimTab.alloc | (refine LimTab.later ?_ (by assumption))))).mono ?_; rintro e w' ⟨rfl, hb⟩; rw [hr]))
  go_ret
  exact ⟨rfl, (((Below.refl _ _).alloc (Nat.le_refl _) _).alloc (by simp) _).trans (hb.mono (by simp; omega))⟩

set_option maxHeartbeats 400000 in
theorem words_yes (b wd m r ce lg st : Int) (w : World) (ht : LimTab w) (hR : RightC b wd m r ce lg st) (hr : rightB b wd m r ce lg st = true) :
    Calls Tryd.prog 33 #[.agg #[.int .i64 b, .int .i64 wd, .int .i64 m, .int .i64 r, .int .i64 ce, .int .i64 lg, .int .i64 st]] w
      fun e w' => e = .returned (.int .i64 (b * wd)) ∧ Below w.heap.size w w' := by
  obtain ⟨p0, p1⟩ := hR.words
  obtain ⟨b0, b1, wd0, wd1, m0, m1, r0, r1, ce0, ce1, lg0, lg1, st0, st1⟩ := hR
  go_enter Tryd.func33, Tryd.ntmps33
  go_wp2_with (first | (go_at_call 57; go_in) | (go_at_call 58; go_in) | (go_at_call 29; refine (right_any _ _ _ _ _ _ _ _ (by repeat (first | exact ht | apply LimTab.drewN | apply LimTab.drew | apply LimTab.alloc | (refine LimTab.later ?_ (by assumption))))).mono ?_; rintro e w' ⟨rfl, hb⟩; rw [hr]; obtain ⟨hc, hf⟩ := bcell hb))
  go_ret
  exact ⟨ret_int (by first | rfl | (simp only [slotsI, opI, ansI]; done) | (simp only [slotsI, opI, ansI]; omega)), (((Below.refl _ _).alloc (Nat.le_refl _) _).alloc (by simp) _).trans (hb.mono (by simp; omega))⟩

set_option maxHeartbeats 400000 in
theorem slots_no (b wd m r ce lg st : Int) (w : World) (ht : LimTab w) (hr : rightB b wd m r ce lg st = false) :
    Calls Tryd.prog 34 #[.agg #[.int .i64 b, .int .i64 wd, .int .i64 m, .int .i64 r, .int .i64 ce, .int .i64 lg, .int .i64 st]] w
      fun e w' => e = .returned (.int .i64 0) ∧ Below w.heap.size w w' := by
  go_enter Tryd.func34, Tryd.ntmps34
  go_wp2_with (first | (go_at_call 57; go_in) | (go_at_call 29; refine (right_any _ _ _ _ _ _ _ _ (by repeat (first | exact ht | apply LimTab.drewN | apply LimTab.drew | apply LimTab.alloc | (refine LimTab.later ?_ (by assumption))))).mono ?_; rintro e w' ⟨rfl, hb⟩; rw [hr]))
  go_ret
  exact ⟨rfl, (((Below.refl _ _).alloc (Nat.le_refl _) _).alloc (by simp) _).trans (hb.mono (by simp; omega))⟩

set_option maxHeartbeats 400000 in
theorem slots_yes (b wd m r ce lg st : Int) (w : World) (ht : LimTab w) (hR : RightC b wd m r ce lg st) (hr : rightB b wd m r ce lg st = true) :
    Calls Tryd.prog 34 #[.agg #[.int .i64 b, .int .i64 wd, .int .i64 m, .int .i64 r, .int .i64 ce, .int .i64 lg, .int .i64 st]] w
      fun e w' => e = .returned (.int .i64 (slotsI b wd)) ∧ Below w.heap.size w w' := by
  obtain ⟨p0, p1⟩ := hR.slots
  obtain ⟨b0, b1, wd0, wd1, m0, m1, r0, r1, ce0, ce1, lg0, lg1, st0, st1⟩ := hR
  go_enter Tryd.func34, Tryd.ntmps34
  go_wp2_with (first | (go_at_call 57; go_in) | (go_at_call 59; go_in) | (go_at_call 29; refine (right_any _ _ _ _ _ _ _ _ (by repeat (first | exact ht | apply LimTab.drewN | apply LimTab.drew | apply LimTab.alloc | (refine LimTab.later ?_ (by assumption))))).mono ?_; rintro e w' ⟨rfl, hb⟩; rw [hr]; obtain ⟨hc, hf⟩ := bcell hb))
  go_ret
  exact ⟨ret_int (by first | rfl | (simp only [slotsI, opI, ansI]; done) | (simp only [slotsI, opI, ansI]; omega)), (((Below.refl _ _).alloc (Nat.le_refl _) _).alloc (by simp) _).trans (hb.mono (by simp; omega))⟩

set_option maxHeartbeats 400000 in
theorem op_no (b wd m r ce lg st : Int) (w : World) (ht : LimTab w) (hr : rightB b wd m r ce lg st = false) :
    Calls Tryd.prog 35 #[.agg #[.int .i64 b, .int .i64 wd, .int .i64 m, .int .i64 r, .int .i64 ce, .int .i64 lg, .int .i64 st]] w
      fun e w' => e = .returned (.int .i64 0) ∧ Below w.heap.size w w' := by
  go_enter Tryd.func35, Tryd.ntmps35
  go_wp2_with (first | (go_at_call 57; go_in) | (go_at_call 29; refine (right_any _ _ _ _ _ _ _ _ (by repeat (first | exact ht | apply LimTab.drewN | apply LimTab.drew | apply LimTab.alloc | (refine LimTab.later ?_ (by assumption))))).mono ?_; rintro e w' ⟨rfl, hb⟩; rw [hr]))
  go_ret
  exact ⟨rfl, (((Below.refl _ _).alloc (Nat.le_refl _) _).alloc (by simp) _).trans (hb.mono (by simp; omega))⟩

set_option maxHeartbeats 400000 in
theorem op_yes (b wd m r ce lg st : Int) (w : World) (ht : LimTab w) (hR : RightC b wd m r ce lg st) (hr : rightB b wd m r ce lg st = true) :
    Calls Tryd.prog 35 #[.agg #[.int .i64 b, .int .i64 wd, .int .i64 m, .int .i64 r, .int .i64 ce, .int .i64 lg, .int .i64 st]] w
      fun e w' => e = .returned (.int .i64 (opI lg wd)) ∧ Below w.heap.size w w' := by
  skip
  obtain ⟨b0, b1, wd0, wd1, m0, m1, r0, r1, ce0, ce1, lg0, lg1, st0, st1⟩ := hR
  go_enter Tryd.func35, Tryd.ntmps35
  go_wp2_with (first | (go_at_call 57; go_in) | (go_at_call 60; go_in) | (go_at_call 29; refine (right_any _ _ _ _ _ _ _ _ (by repeat (first | exact ht | apply LimTab.drewN | apply LimTab.drew | apply LimTab.alloc | (refine LimTab.later ?_ (by assumption))))).mono ?_; rintro e w' ⟨rfl, hb⟩; rw [hr]; obtain ⟨hc, hf⟩ := bcell hb))
  go_ret
  exact ⟨ret_int (by first | rfl | (simp only [slotsI, opI, ansI]; done) | (simp only [slotsI, opI, ansI]; omega)), (((Below.refl _ _).alloc (Nat.le_refl _) _).alloc (by simp) _).trans (hb.mono (by simp; omega))⟩

set_option maxHeartbeats 400000 in
theorem ans_no (b wd m r ce lg st : Int) (w : World) (ht : LimTab w) (hr : rightB b wd m r ce lg st = false) :
    Calls Tryd.prog 36 #[.agg #[.int .i64 b, .int .i64 wd, .int .i64 m, .int .i64 r, .int .i64 ce, .int .i64 lg, .int .i64 st]] w
      fun e w' => e = .returned (.int .i64 0) ∧ Below w.heap.size w w' := by
  go_enter Tryd.func36, Tryd.ntmps36
  go_wp2_with (first | (go_at_call 57; go_in) | (go_at_call 29; refine (right_any _ _ _ _ _ _ _ _ (by repeat (first | exact ht | apply LimTab.drewN | apply LimTab.drew | apply LimTab.alloc | (refine LimTab.later ?_ (by assumption))))).mono ?_; rintro e w' ⟨rfl, hb⟩; rw [hr]))
  go_ret
  exact ⟨rfl, (((Below.refl _ _).alloc (Nat.le_refl _) _).alloc (by simp) _).trans (hb.mono (by simp; omega))⟩

set_option maxHeartbeats 400000 in
theorem ans_yes (b wd m r ce lg st : Int) (w : World) (ht : LimTab w) (hR : RightC b wd m r ce lg st) (hr : rightB b wd m r ce lg st = true) :
    Calls Tryd.prog 36 #[.agg #[.int .i64 b, .int .i64 wd, .int .i64 m, .int .i64 r, .int .i64 ce, .int .i64 lg, .int .i64 st]] w
      fun e w' => e = .returned (.int .i64 (ansI r lg)) ∧ Below w.heap.size w w' := by
  obtain ⟨p0, p1⟩ := hR.regs
  obtain ⟨b0, b1, wd0, wd1, m0, m1, r0, r1, ce0, ce1, lg0, lg1, st0, st1⟩ := hR
  go_enter Tryd.func36, Tryd.ntmps36
  go_wp2_with (first | (go_at_call 57; go_in) | (go_at_call 61; go_in) | (go_at_call 29; refine (right_any _ _ _ _ _ _ _ _ (by repeat (first | exact ht | apply LimTab.drewN | apply LimTab.drew | apply LimTab.alloc | (refine LimTab.later ?_ (by assumption))))).mono ?_; rintro e w' ⟨rfl, hb⟩; rw [hr]; obtain ⟨hc, hf⟩ := bcell hb))
  go_ret
  exact ⟨ret_int (by first | rfl | (simp only [slotsI, opI, ansI]; done) | (simp only [slotsI, opI, ansI]; omega)), (((Below.refl _ _).alloc (Nat.le_refl _) _).alloc (by simp) _).trans (hb.mono (by simp; omega))⟩

theorem rest_wrap {b wd m r ce lg st : Int} (hR : RightC b wd m r ce lg st) : IntKind.i64.wrap (IntKind.i64.wrap (IntKind.i64.wrap (IntKind.i64.wrap (IntKind.i64.wrap (IntKind.i64.wrap (2 * b) * IntKind.i64.wrap (wd + 8)) +
    IntKind.i64.wrap (3 * opI lg wd)) + IntKind.i64.wrap (2 * ansI r lg)) + IntKind.i64.wrap (4 * m)) + 60) = restI b wd m r lg := by
  obtain ⟨p0, p1⟩ := hR.rest
  obtain ⟨q0, q1⟩ := hR.op
  obtain ⟨s0, s1⟩ := hR.ans
  obtain ⟨b0, b1, wd0, wd1, m0, m1, r0, r1, ce0, ce1, lg0, lg1, st0, st1⟩ := hR
  rw [IntWalk.i64_in (2 * b) (by omega), IntWalk.i64_in (wd + 8) (by omega), IntWalk.i64_in (2 * b * (wd + 8)) (by omega), IntWalk.i64_in (3 * opI lg wd) (by omega), IntWalk.i64_in (2 * b * (wd + 8) + 3 * opI lg wd) (by omega),
    IntWalk.i64_in (2 * ansI r lg) (by omega), IntWalk.i64_in (2 * b * (wd + 8) + 3 * opI lg wd + 2 * ansI r lg) (by omega), IntWalk.i64_in (4 * m) (by omega), IntWalk.i64_in (2 * b * (wd + 8) + 3 * opI lg wd + 2 * ansI r lg + 4 * m) (by omega),
    IntWalk.i64_in (2 * b * (wd + 8) + 3 * opI lg wd + 2 * ansI r lg + 4 * m + 60) (by omega)]
  rfl

set_option maxHeartbeats 1000000 in
theorem resting_any (b wd m r ce lg st : Int) (w : World) (ht : LimTab w) (hR : RightC b wd m r ce lg st) (hr : rightB b wd m r ce lg st = true) :
    Calls Tryd.prog 66 #[.agg #[.int .i64 b, .int .i64 wd, .int .i64 m, .int .i64 r, .int .i64 ce, .int .i64 lg, .int .i64 st]] w
      fun e w' => e = .returned (.int .i64 (restI b wd m r lg)) ∧ Below w.heap.size w w' := by
  obtain ⟨p0, p1⟩ := hR.rest
  obtain ⟨q0, q1⟩ := hR.op
  obtain ⟨s0, s1⟩ := hR.ans
  have hR' := Lib.hid hR
  obtain ⟨b0, b1, wd0, wd1, m0, m1, r0, r1, ce0, ce1, lg0, lg1, st0, st1⟩ := hR
  go_enter Tryd.func66, Tryd.ntmps66
  go_wp2
  go_region_held3 (fun w' => w'.cell? ⟨w.heap.size, 0, none⟩ = some (.int .i64 b) ∧ w'.cell? ⟨w.heap.size, 1, none⟩ = some (.int .i64 wd) ∧ w'.cell? ⟨w.heap.size, 2, none⟩ = some (.int .i64 m)
     ∧ w'.cell? ⟨w.heap.size, 3, none⟩ = some (.int .i64 r) ∧ w'.cell? ⟨w.heap.size, 4, none⟩ = some (.int .i64 ce) ∧ w'.cell? ⟨w.heap.size, 5, none⟩ = some (.int .i64 lg) ∧ w'.cell? ⟨w.heap.size, 6, none⟩ = some (.int .i64 st)) (go_keep)
    (first
      | (go_at_call 35; refine (op_yes _ _ _ _ _ _ _ _ (by repeat (first | exact ht | apply LimTab.drewN | apply LimTab.drew | apply LimTab.alloc | (refine LimTab.later ?_ (by assumption)))) hR'.out hr).mono ?_; rintro e w1 ⟨rfl, hb1⟩; obtain ⟨hc1, hf1⟩ := bcell hb1; have hz1 : w.heap.size < w1.heap.size := (by have := hb1.size; first | omega | (simp at this; omega)))
      | (go_at_call 36; refine (ans_yes _ _ _ _ _ _ _ _ (by repeat (first | exact ht | apply LimTab.drewN | apply LimTab.drew | apply LimTab.alloc | (refine LimTab.later ?_ (by assumption)))) hR'.out hr).mono ?_; rintro e w2 ⟨rfl, hb2⟩; obtain ⟨hc2, hf2⟩ := bcell hb2; have hz2 : w.heap.size < w2.heap.size := (by have := hb2.size; first | omega | (simp at this; omega))))
  rename_i hheld
  clear hheld hc1 hc2 hf1 hf2
  go_wp2
  go_ret
  exact ⟨ret_int (rest_wrap hR'.out), ((below_drew ((Below.refl _ _).alloc (Nat.le_refl _) _)).trans (hb1.mono (by simp))).trans (hb2.mono (by omega))⟩



theorem mark_wrap {b wd m r ce lg st lo : Int} (hR : RightC b wd m r ce lg st) (hlo : lo = looksI (slotsI b wd) m ce lg) : IntKind.i64.wrap (IntKind.i64.wrap (IntKind.i64.wrap (2 * slotsI b wd) + 6) *
    IntKind.i64.wrap (IntKind.i64.wrap (IntKind.i64.wrap (lo + opI lg wd) + ansI r lg) + 40)) = markI b wd m r ce lg := by
  subst hlo
  obtain ⟨q0, q1⟩ := hR.op
  obtain ⟨s0, s1⟩ := hR.ans
  obtain ⟨n0, n1⟩ := hR.slots1
  obtain ⟨l0, l1⟩ := hR.looks
  obtain ⟨k0, k1⟩ := hR.mark
  rw [IntWalk.i64_in (2 * slotsI b wd) (by omega), IntWalk.i64_in (2 * slotsI b wd + 6) (by omega), IntWalk.i64_in (looksI (slotsI b wd) m ce lg + opI lg wd) (by omega), IntWalk.i64_in (looksI (slotsI b wd) m ce lg + opI lg wd + ansI r lg) (by omega),
    IntWalk.i64_in (looksI (slotsI b wd) m ce lg + opI lg wd + ansI r lg + 40) (by omega)]
  show IntKind.i64.wrap (markI b wd m r ce lg) = _
  rw [IntWalk.i64_in _ (by omega)]

set_option maxHeartbeats 1000000 in
theorem marking_any (b wd m r ce lg st : Int) (w : World) (ht : LimTab w) (hR : RightC b wd m r ce lg st) (hr : rightB b wd m r ce lg st = true) :
    Calls Tryd.prog 64 #[.agg #[.int .i64 b, .int .i64 wd, .int .i64 m, .int .i64 r, .int .i64 ce, .int .i64 lg, .int .i64 st]] w
      fun e w' => e = .returned (.int .i64 (markI b wd m r ce lg)) ∧ Below w.heap.size w w' := by
  obtain ⟨p0, p1⟩ := hR.muts
  obtain ⟨q0, q1⟩ := hR.op
  obtain ⟨s0, s1⟩ := hR.ans
  obtain ⟨n0, n1⟩ := hR.slots1
  have hR' := Lib.hid hR
  obtain ⟨b0, b1, wd0, wd1, m0, m1, r0, r1, ce0, ce1, lg0, lg1, st0, st1⟩ := hR
  go_enter Tryd.func64, Tryd.ntmps64
  go_wp2_with (go_at_call 34; refine (slots_yes _ _ _ _ _ _ _ _ (by repeat (first | exact ht | apply LimTab.drewN | apply LimTab.drew | apply LimTab.alloc | (refine LimTab.later ?_ (by assumption)))) hR'.out hr).mono ?_; rintro e w0 ⟨rfl, hb0⟩; have hz0 : w.heap.size < w0.heap.size := (by have := hb0.size; simp at this; omega); have hk0 : ∀ o, w0.cell? ⟨w.heap.size, o, none⟩ = (w.alloc _).cell? ⟨w.heap.size, o, none⟩ := fun o => hb0.cell (p := ⟨w.heap.size, o, none⟩) (by simp))
  go_region_held3 (fun w' => w'.cell? ⟨w.heap.size, 0, none⟩ = some (.int .i64 b) ∧ w'.cell? ⟨w.heap.size, 1, none⟩ = some (.int .i64 wd) ∧ w'.cell? ⟨w.heap.size, 2, none⟩ = some (.int .i64 m)
     ∧ w'.cell? ⟨w.heap.size, 3, none⟩ = some (.int .i64 r) ∧ w'.cell? ⟨w.heap.size, 4, none⟩ = some (.int .i64 ce) ∧ w'.cell? ⟨w.heap.size, 5, none⟩ = some (.int .i64 lg) ∧ w'.cell? ⟨w.heap.size, 6, none⟩ = some (.int .i64 st)) (go_keep)
    (first
      | (go_at_call 35; refine (op_yes _ _ _ _ _ _ _ _ (by repeat (first | exact ht | apply LimTab.drewN | apply LimTab.drew | apply LimTab.alloc | (refine LimTab.later ?_ (by assumption)))) hR'.out hr).mono ?_; rintro e w1 ⟨rfl, hb1⟩; have hz1 : w.heap.size < w1.heap.size := (by have := hb1.size; first | omega | (simp at this; omega)); have hk1 : ∀ o, w1.cell? ⟨w.heap.size, o, none⟩ = w0.cell? ⟨w.heap.size, o, none⟩ := fun o => hb1.cell (p := ⟨w.heap.size, o, none⟩) hz0)
      | (go_at_call 36; refine (ans_yes _ _ _ _ _ _ _ _ (by repeat (first | exact ht | apply LimTab.drewN | apply LimTab.drew | apply LimTab.alloc | (refine LimTab.later ?_ (by assumption)))) hR'.out hr).mono ?_; rintro e w2 ⟨rfl, hb2⟩; have hz2 : w.heap.size < w2.heap.size := (by have := hb2.size; first | omega | (simp at this; omega)); have hk2 : ∀ o, w2.cell? ⟨w.heap.size, o, none⟩ = w1.cell? ⟨w.heap.size, o, none⟩ := fun o => hb2.cell (p := ⟨w.heap.size, o, none⟩) hz1))
  rename_i hheld
  clear hheld hk0 hk1 hk2
  go_wp2
  go_ret
  exact ⟨ret_int (mark_wrap hR'.out rfl), (((((Below.refl _ _).alloc (Nat.le_refl _) _)).trans (below_drew (hb0.mono (by simp)))).trans (hb1.mono (by simp; omega))).trans (hb2.mono (by omega))⟩

end Go.Proofs.YtahhenbphnejiaaDoor
