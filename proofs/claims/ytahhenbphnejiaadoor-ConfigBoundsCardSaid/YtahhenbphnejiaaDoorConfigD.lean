/-
  config.times, Marking and Cycle, for every k, wherever the table of limits lies as it was laid.
-/
import Derived.Test.YtahhenbphnejiaaDoorConfigC
namespace Go.Proofs.YtahhenbphnejiaaDoor
open Go.RowKit

set_option maxHeartbeats 400000 in
theorem times_k0 (k n : Int) (w : World) (h : k < 1) :
    Calls Tryd.prog 62 #[.int .i64 k, .int .i64 n] w fun e w' => e = .returned (.int .i64 0) ∧ w' = w := by
  go_enter Tryd.func62, Tryd.ntmps62
  go_wp2
  go_ret
  exact ⟨rfl, rfl⟩
set_option maxHeartbeats 400000 in
theorem times_n0 (k n : Int) (w : World) (h : 1 ≤ k) (h2 : n < 1) :
    Calls Tryd.prog 62 #[.int .i64 k, .int .i64 n] w fun e w' => e = .returned (.int .i64 0) ∧ w' = w := by
  go_enter Tryd.func62, Tryd.ntmps62
  go_wp2
  go_ret
  exact ⟨rfl, rfl⟩
set_option maxHeartbeats 400000 in
theorem times_top (k n : Int) (w : World) (h : 1 ≤ k) (h2 : 1 ≤ n) (h4 : n ≤ 60000000000000) (h3 : 4611686018427387904 / n < k) :
    Calls Tryd.prog 62 #[.int .i64 k, .int .i64 n] w fun e w' => e = .returned (.int .i64 4611686018427387904) ∧ w' = w := by
  go_enter Tryd.func62, Tryd.ntmps62
  go_wp2
  go_ret
  exact ⟨rfl, rfl⟩
set_option maxHeartbeats 400000 in
theorem times_mul (k n : Int) (w : World) (h : 1 ≤ k) (h2 : 1 ≤ n) (h4 : n ≤ 60000000000000) (h3 : k ≤ 4611686018427387904 / n) (h5 : 0 ≤ k * n) (h6 : k * n ≤ 4611686018427387904) :
    Calls Tryd.prog 62 #[.int .i64 k, .int .i64 n] w fun e w' => e = .returned (.int .i64 (k * n)) ∧ w' = w := by
  go_enter Tryd.func62, Tryd.ntmps62
  go_wp2
  go_ret
  exact ⟨rfl, rfl⟩
/-- times, whatever the factors are (the second one no greater than a bound ever is). -/
theorem times_any (k n : Int) (w : World) (h4 : n ≤ 60000000000000) :
    Calls Tryd.prog 62 #[.int .i64 k, .int .i64 n] w fun e w' => e = .returned (.int .i64 (timesI k n)) ∧ w' = w := by
  by_cases hk : k < 1
  · rw [timesI_k0 hk]; exact times_k0 k n w hk
  · by_cases hn : n < 1
    · rw [timesI_n0 hk hn]; exact times_n0 k n w (by omega) hn
    · by_cases ht : topI / n < k
      · rw [timesI_top hk hn ht]; exact times_top k n w (by omega) (by omega) h4 ht
      · obtain ⟨h5, h6⟩ := timesI_bd hk hn ht
        rw [timesI_mul hk hn ht]; exact times_mul k n w (by omega) (by omega) h4 (Int.not_lt.1 ht) h5 h6

set_option maxHeartbeats 1000000 in
theorem cycle1_any (B : Nat) (b wd m r ce lg st : Int) (w : World) (ht : LimTab w) (hR : RightC b wd m r ce lg st) (hr : rightB b wd m r ce lg st = true) (hB : B < w.heap.size)
    (c0 : w.cell? ⟨B, 0, none⟩ = some (.int .i64 b)) (c1 : w.cell? ⟨B, 1, none⟩ = some (.int .i64 wd)) (c2 : w.cell? ⟨B, 2, none⟩ = some (.int .i64 m)) (c3 : w.cell? ⟨B, 3, none⟩ = some (.int .i64 r))
    (c4 : w.cell? ⟨B, 4, none⟩ = some (.int .i64 ce)) (c5 : w.cell? ⟨B, 5, none⟩ = some (.int .i64 lg)) (c6 : w.cell? ⟨B, 6, none⟩ = some (.int .i64 st)) :
    Calls Tryd.prog 65 #[.pointer (some ⟨B, 0, none⟩)] w
      fun e w' => e = .returned (.int .i64 (markI b wd m r ce lg + restI b wd m r lg)) ∧ Below w.heap.size w w' := by
  obtain ⟨p0, p1⟩ := hR.mark
  obtain ⟨q0, q1⟩ := hR.restB
  have hR' := Lib.hid hR
  clear hR
  go_enter Tryd.func65, Tryd.ntmps65
  go_wp2
  go_region_held3 (fun w' => w'.cell? ⟨B, 0, none⟩ = some (.int .i64 b) ∧ w'.cell? ⟨B, 1, none⟩ = some (.int .i64 wd) ∧ w'.cell? ⟨B, 2, none⟩ = some (.int .i64 m)
     ∧ w'.cell? ⟨B, 3, none⟩ = some (.int .i64 r) ∧ w'.cell? ⟨B, 4, none⟩ = some (.int .i64 ce) ∧ w'.cell? ⟨B, 5, none⟩ = some (.int .i64 lg) ∧ w'.cell? ⟨B, 6, none⟩ = some (.int .i64 st)) (go_keep)
    (first
      | (go_at_call 64; refine (marking_any _ _ _ _ _ _ _ _ (by repeat (first | exact ht | apply LimTab.drewN | apply LimTab.drew | apply LimTab.alloc | (refine LimTab.later ?_ (by assumption)))) hR'.out hr).mono ?_; rintro e w1 ⟨rfl, hb1⟩; have hz1 : B < w1.heap.size := (by have := hb1.size; first | omega | (simp at this; omega)); have hk1 : ∀ o, w1.cell? ⟨B, o, none⟩ = w.cell? ⟨B, o, none⟩ := fun o => hb1.cell (p := ⟨B, o, none⟩) hB)
      | (go_at_call 66; refine (resting_any _ _ _ _ _ _ _ _ (by repeat (first | exact ht | apply LimTab.drewN | apply LimTab.drew | apply LimTab.alloc | (refine LimTab.later ?_ (by assumption)))) hR'.out hr).mono ?_; rintro e w2 ⟨rfl, hb2⟩; have hz2 : B < w2.heap.size := (by have := hb2.size; first | omega | (simp at this; omega)); have hk2 : ∀ o, w2.cell? ⟨B, o, none⟩ = w1.cell? ⟨B, o, none⟩ := fun o => hb2.cell (p := ⟨B, o, none⟩) hz1))
  rename_i hheld
  clear hheld hk1 hk2
  go_wp2
  go_ret
  refine ⟨ret_int ?_, (below_drew (Below.refl _ _)).trans ((hb1.mono (by simp)).trans (hb2.mono (by have := hb1.size; first | omega | (simp at this; omega))))⟩
  exact IntWalk.i64_in _ (by omega)

set_option maxHeartbeats 400000 in
theorem Marking_no (b wd m r ce lg st k : Int) (w : World) (ht : LimTab w) (hr : rightB b wd m r ce lg st = false) :
    Calls Tryd.prog 41 #[.agg #[.int .i64 b, .int .i64 wd, .int .i64 m, .int .i64 r, .int .i64 ce, .int .i64 lg, .int .i64 st], .int .i64 k] w
      fun e w' => e = .returned (.int .i64 0) ∧ Below w.heap.size w w' := by
  go_enter Tryd.func41, Tryd.ntmps41
  go_wp2_with (first | (go_at_call 57; go_in) | (go_at_call 29; refine (right_any _ _ _ _ _ _ _ _ (by repeat (first | exact ht | apply LimTab.drewN | apply LimTab.drew | apply LimTab.alloc | (refine LimTab.later ?_ (by assumption))))).mono ?_; rintro e w' ⟨rfl, hb⟩; rw [hr]) | (go_at_call 62; refine (times_any _ _ _ (by omega)).mono ?_; rintro e w3 ⟨rfl, rfl⟩))
  go_ret
  exact ⟨ret_int (timesI_zero k), (((Below.refl _ _).alloc (Nat.le_refl _) _).alloc (by simp) _).trans (hb.mono (by simp; omega))⟩

set_option maxHeartbeats 1000000 in
theorem Marking_yes (b wd m r ce lg st k : Int) (w : World) (ht : LimTab w) (hR : RightC b wd m r ce lg st) (hr : rightB b wd m r ce lg st = true) :
    Calls Tryd.prog 41 #[.agg #[.int .i64 b, .int .i64 wd, .int .i64 m, .int .i64 r, .int .i64 ce, .int .i64 lg, .int .i64 st], .int .i64 k] w
      fun e w' => e = .returned (.int .i64 (timesI k (markI b wd m r ce lg))) ∧ Below w.heap.size w w' := by
  obtain ⟨p0, p1⟩ := hR.mark
  obtain ⟨q0, q1⟩ := hR.restB
  have hR' := Lib.hid hR
  clear hR
  go_enter Tryd.func41, Tryd.ntmps41
  go_wp2_with (first | (go_at_call 57; go_in) | (go_at_call 29; refine (right_any _ _ _ _ _ _ _ _ (by repeat (first | exact ht | apply LimTab.drewN | apply LimTab.drew | apply LimTab.alloc | (refine LimTab.later ?_ (by assumption))))).mono ?_; rintro e w' ⟨rfl, hb⟩; rw [hr]; obtain ⟨hc, hf⟩ := bcell hb; have hz : w.heap.size + 1 < w'.heap.size := (by have := hb.size; simp at this; omega)) | (go_at_call 63; go_in) | (go_at_call 64; refine (marking_any _ _ _ _ _ _ _ _ (by repeat (first | exact ht | apply LimTab.drewN | apply LimTab.drew | apply LimTab.alloc | (refine LimTab.later ?_ (by assumption)))) hR'.out hr).mono ?_; rintro e w2 ⟨rfl, hb2⟩) | (go_at_call 62; refine (times_any _ _ _ (by omega)).mono ?_; rintro e w3 ⟨rfl, rfl⟩))
  go_ret
  exact ⟨rfl, ((((Below.refl _ _).alloc (Nat.le_refl _) _).alloc (by simp) _).trans (hb.mono (by simp; omega))).trans (hb2.mono (by omega))⟩

set_option maxHeartbeats 400000 in
theorem Cycle_no (b wd m r ce lg st k : Int) (w : World) (ht : LimTab w) (hr : rightB b wd m r ce lg st = false) :
    Calls Tryd.prog 42 #[.agg #[.int .i64 b, .int .i64 wd, .int .i64 m, .int .i64 r, .int .i64 ce, .int .i64 lg, .int .i64 st], .int .i64 k] w
      fun e w' => e = .returned (.int .i64 0) ∧ Below w.heap.size w w' := by
  go_enter Tryd.func42, Tryd.ntmps42
  go_wp2_with (first | (go_at_call 57; go_in) | (go_at_call 29; refine (right_any _ _ _ _ _ _ _ _ (by repeat (first | exact ht | apply LimTab.drewN | apply LimTab.drew | apply LimTab.alloc | (refine LimTab.later ?_ (by assumption))))).mono ?_; rintro e w' ⟨rfl, hb⟩; rw [hr]) | (go_at_call 62; refine (times_any _ _ _ (by omega)).mono ?_; rintro e w3 ⟨rfl, rfl⟩))
  go_ret
  exact ⟨ret_int (timesI_zero k), (((Below.refl _ _).alloc (Nat.le_refl _) _).alloc (by simp) _).trans (hb.mono (by simp; omega))⟩

set_option maxHeartbeats 1000000 in
theorem Cycle_yes (b wd m r ce lg st k : Int) (w : World) (ht : LimTab w) (hR : RightC b wd m r ce lg st) (hr : rightB b wd m r ce lg st = true) :
    Calls Tryd.prog 42 #[.agg #[.int .i64 b, .int .i64 wd, .int .i64 m, .int .i64 r, .int .i64 ce, .int .i64 lg, .int .i64 st], .int .i64 k] w
      fun e w' => e = .returned (.int .i64 (timesI k (markI b wd m r ce lg + restI b wd m r lg))) ∧ Below w.heap.size w w' := by
  obtain ⟨p0, p1⟩ := hR.mark
  obtain ⟨q0, q1⟩ := hR.restB
  have hR' := Lib.hid hR
  clear hR
  go_enter Tryd.func42, Tryd.ntmps42
  go_wp2_with (first | (go_at_call 57; go_in) | (go_at_call 29; refine (right_any _ _ _ _ _ _ _ _ (by repeat (first | exact ht | apply LimTab.drewN | apply LimTab.drew | apply LimTab.alloc | (refine LimTab.later ?_ (by assumption))))).mono ?_; rintro e w' ⟨rfl, hb⟩; rw [hr]; obtain ⟨hc, hf⟩ := bcell hb; have hz : w.heap.size + 1 < w'.heap.size := (by have := hb.size; simp at this; omega); have hk := fun o => hb.cell (p := ⟨w.heap.size, o, none⟩) (by simp; omega); clear hc hf) | (go_at_call 65; go_must (refine (cycle1_any _ _ _ _ _ _ _ _ _ (by repeat (first | exact ht | apply LimTab.drewN | apply LimTab.drew | apply LimTab.alloc | (refine LimTab.later ?_ (by assumption)))) hR'.out hr (by omega) (by rw [hk]; simp) (by rw [hk]; simp) (by rw [hk]; simp) (by rw [hk]; simp) (by rw [hk]; simp) (by rw [hk]; simp) (by rw [hk]; simp)).mono ?_); rintro e w2 ⟨rfl, hb2⟩) | (go_at_call 62; refine (times_any _ _ _ (by omega)).mono ?_; rintro e w3 ⟨rfl, rfl⟩))
  go_ret
  exact ⟨rfl, ((((Below.refl _ _).alloc (Nat.le_refl _) _).alloc (by simp) _).trans (hb.mono (by simp; omega))).trans (hb2.mono (by omega))⟩

end Go.Proofs.YtahhenbphnejiaaDoor
