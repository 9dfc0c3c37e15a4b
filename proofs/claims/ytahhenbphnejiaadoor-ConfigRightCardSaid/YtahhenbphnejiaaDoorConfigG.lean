/-
  The document's answer Cycle, of right configs and k from 1 on; the law's example; wherever the table of limits lies as it was laid.
-/
import Derived.Test.YtahhenbphnejiaaDoorConfigF
namespace Go.Proofs.YtahhenbphnejiaaDoor
open Go.RowKit

set_option maxHeartbeats 2000000 in
theorem refcycle_any (b wd m r ce lg st k : Int) (w : World) (hR : RightC b wd m r ce lg st) (hk : 1 ≤ k) :
    Calls Tryd.prog 44 #[.agg #[.int .i64 b, .int .i64 wd, .int .i64 m, .int .i64 r, .int .i64 ce, .int .i64 lg, .int .i64 st], .int .i64 k] w fun e w' => e = .returned (.int .i64 (timesI k (markI b wd m r ce lg + restI b wd m r lg))) ∧ Below w.heap.size w w' := by
  obtain ⟨p0, p1⟩ := hR.rest
  obtain ⟨q0, q1⟩ := hR.op
  obtain ⟨s0, s1⟩ := hR.ans
  have hma : 1 ≤ markI b wd m r ce lg := by have := hR.mark.1; omega
  have hre := hR.restB.1
  have hR' := Lib.hid hR
  obtain ⟨b0, b1, wd0, wd1, m0, m1, r0, r1, ce0, ce1, lg0, lg1, st0, st1⟩ := hR
  have d1 : 1 ≤ 2 * b * (wd + 8) + 3 * opI lg wd + 2 * ansI r lg + 4 * m + 60 := by omega
  have hfin := Lib.hid (timesI_add hk hma hre)
  have hrest : Hid (restI b wd m r lg = 2 * b * (wd + 8) + 3 * opI lg wd + 2 * ansI r lg + 4 * m + 60) := rfl
  obtain ⟨t1, t2⟩ := timesI_pos hk hma
  obtain ⟨t3, t4⟩ := timesI_pos hk hre
  unfold topI at t2 t4
  have e1 : IntKind.i64.wrap (2 * b) = 2 * b := IntWalk.i64_in _ (by omega)
  have e2 : IntKind.i64.wrap (wd + 8) = wd + 8 := IntWalk.i64_in _ (by omega)
  have e3 : IntKind.i64.wrap (2 * b * (wd + 8)) = 2 * b * (wd + 8) := IntWalk.i64_in _ (by omega)
  have e4 : IntKind.i64.wrap (3 * opI lg wd) = 3 * opI lg wd := IntWalk.i64_in _ (by omega)
  have e5 : IntKind.i64.wrap (2 * b * (wd + 8) + 3 * opI lg wd) = 2 * b * (wd + 8) + 3 * opI lg wd := IntWalk.i64_in _ (by omega)
  have e6 : IntKind.i64.wrap (2 * ansI r lg) = 2 * ansI r lg := IntWalk.i64_in _ (by omega)
  have e7 : IntKind.i64.wrap (2 * b * (wd + 8) + 3 * opI lg wd + 2 * ansI r lg) = 2 * b * (wd + 8) + 3 * opI lg wd + 2 * ansI r lg := IntWalk.i64_in _ (by omega)
  have e8 : IntKind.i64.wrap (4 * m) = 4 * m := IntWalk.i64_in _ (by omega)
  have e9 : IntKind.i64.wrap (2 * b * (wd + 8) + 3 * opI lg wd + 2 * ansI r lg + 4 * m) = 2 * b * (wd + 8) + 3 * opI lg wd + 2 * ansI r lg + 4 * m := IntWalk.i64_in _ (by omega)
  have e10 : IntKind.i64.wrap (2 * b * (wd + 8) + 3 * opI lg wd + 2 * ansI r lg + 4 * m + 60) = 2 * b * (wd + 8) + 3 * opI lg wd + 2 * ansI r lg + 4 * m + 60 := IntWalk.i64_in _ (by omega)
  clear p0 p1 q0 q1 s0 s1 b0 b1 wd0 wd1 m0 m1 r0 r1 ce0 ce1 lg0 lg1 st0 st1 hma hre
  go_enter Tryd.func44, Tryd.ntmps44
  go_wp2
  go_region_held3 (fun w' => w'.cell? ⟨w.heap.size, 0, none⟩ = some (.int .i64 b) ∧ w'.cell? ⟨w.heap.size, 1, none⟩ = some (.int .i64 wd) ∧ w'.cell? ⟨w.heap.size, 2, none⟩ = some (.int .i64 m)
     ∧ w'.cell? ⟨w.heap.size, 3, none⟩ = some (.int .i64 r) ∧ w'.cell? ⟨w.heap.size, 4, none⟩ = some (.int .i64 ce) ∧ w'.cell? ⟨w.heap.size, 5, none⟩ = some (.int .i64 lg) ∧ w'.cell? ⟨w.heap.size, 6, none⟩ = some (.int .i64 st)) (go_keep)
    (first
      | (go_at_call 43; refine (refmarking_any _ _ _ _ _ _ _ _ _ hR'.out hk).mono ?_; rintro e w0 ⟨rfl, hb0⟩; have hk0 : ∀ o, w0.cell? ⟨w.heap.size, o, none⟩ = (w.alloc _).cell? ⟨w.heap.size, o, none⟩ := fun o => hb0.cell (p := ⟨w.heap.size, o, none⟩) (by simp); have hz0 : w.heap.size < w0.heap.size := (by have := hb0.size; simp at this; omega))
      | (go_at_call 39; refine (refop_any _ _ _ _ _ _ _ _ hR'.out).mono ?_; rintro e w1 ⟨rfl, hb1⟩; have hz1 : w.heap.size < w1.heap.size := (by have := hb1.size; first | omega | (simp at this; omega)); have hk1 : ∀ o, w1.cell? ⟨w.heap.size, o, none⟩ = w0.cell? ⟨w.heap.size, o, none⟩ := fun o => hb1.cell (p := ⟨w.heap.size, o, none⟩) hz0)
      | (go_at_call 40; refine (refans_any _ _ _ _ _ _ _ _ hR'.out).mono ?_; rintro e w2 ⟨rfl, hb2⟩; have hz2 : w.heap.size < w2.heap.size := (by have := hb2.size; first | omega | (simp at this; omega)); have hk2 : ∀ o, w2.cell? ⟨w.heap.size, o, none⟩ = w1.cell? ⟨w.heap.size, o, none⟩ := fun o => hb2.cell (p := ⟨w.heap.size, o, none⟩) hz1)
      | (go_at_call 67; refine (reftimes_any _ _ _ (by assumption) (by assumption)).mono ?_; rintro e wx ⟨rfl, rfl⟩; rw [← hrest.out]))
  rename_i hheld
  clear hheld hk0 hk1 hk2 e1 e2 e3 e4 e5 e6 e7 e8 e9 e10
  have hb := ((below_drew ((Below.refl w.heap.size w).alloc (Nat.le_refl _) _)).trans (hb0.mono (by simp))).trans ((hb1.mono (by omega)).trans (hb2.mono (by omega)))
  clear hb0 hb1 hb2
  by_cases hc : 4611686018427387904 - timesI k (restI b wd m r lg) < timesI k (markI b wd m r ce lg)
  · go_wp2
    go_ret
    exact ⟨ret_int (by rw [← hfin.out]; exact (if_pos hc).symm), hb⟩
  · go_wp2
    go_ret
    exact ⟨ret_int (by rw [← hfin.out]; exact (if_neg (Int.not_lt.2 hc)).symm), hb⟩

theorem rightLit : RightC 2 16 1 1 0 1 1 := ⟨by decide, by decide, by decide, by decide, by decide, by decide, by decide, by decide, by decide, by decide, by decide, by decide, by decide, by decide⟩

set_option maxHeartbeats 1000000 in
theorem awake2_any (w : World) (ht : LimTab w) :
    Calls Tryd.prog 37 #[] w fun e w' => e = .returned (.bool true) ∧ Below w.heap.size w w' := by
  have hr : rightB 2 16 1 1 0 1 1 = true := by decide
  have hs : slotsI 2 16 = 16 := by decide
  have hw : (2 : Int) * 16 = 32 := by decide
  have LT := hr
  go_enter Tryd.func37, Tryd.ntmps37
  go_wp2_with (first
    | (go_at_call 29; refine (right_any _ _ _ _ _ _ _ _ (by repeat (first | exact ht | apply LimTab.drewN | apply LimTab.drew | apply LimTab.alloc | (refine LimTab.later ?_ (by assumption))))).mono ?_; rintro e w0 ⟨rfl, hb0⟩; rw [hr]; have hk0 : ∀ o, w0.cell? ⟨w.heap.size, o, none⟩ = (w.alloc _).cell? ⟨w.heap.size, o, none⟩ := fun o => hb0.cell (p := ⟨w.heap.size, o, none⟩) (by simp); have hz0 : w.heap.size < w0.heap.size := (by have := hb0.size; simp at this; omega))
    | (go_at_call 33; refine (words_yes _ _ _ _ _ _ _ _ (by repeat (first | exact ht | apply LimTab.drewN | apply LimTab.drew | apply LimTab.alloc | (refine LimTab.later ?_ (by assumption)))) rightLit hr).mono ?_; rintro e w1 ⟨rfl, hb1⟩; rw [hw]; have hz1 : w.heap.size < w1.heap.size := (by have := hb1.size; first | omega | (simp at this; omega)); have hk1 : ∀ o, w1.cell? ⟨w.heap.size, o, none⟩ = w0.cell? ⟨w.heap.size, o, none⟩ := fun o => hb1.cell (p := ⟨w.heap.size, o, none⟩) hz0)
    | (go_at_call 34; refine (slots_yes _ _ _ _ _ _ _ _ (by repeat (first | exact ht | apply LimTab.drewN | apply LimTab.drew | apply LimTab.alloc | (refine LimTab.later ?_ (by assumption)))) rightLit hr).mono ?_; rintro e w2 ⟨rfl, hb2⟩; rw [hs]))
  go_ret
  exact ⟨rfl, (((Below.refl _ _).alloc (Nat.le_refl _) _).trans (hb0.mono (by simp))).trans ((hb1.mono (by omega)).trans (hb2.mono (by omega)))⟩

end Go.Proofs.YtahhenbphnejiaaDoor
