/-
  The document's answers for layer 2: times and Marking, of right configs and k from 1 on.
-/
import Derived.Test.YtahhenbphnejiaaDoorConfigE
namespace Go.Proofs.YtahhenbphnejiaaDoor
open Go.RowKit

set_option maxHeartbeats 400000 in
theorem reft_top (k n : Int) (w : World) (h : 1 ≤ k) (_h2 : 1 ≤ n) (h3 : 4611686018427387904 / k < n) :
    Calls Tryd.prog 67 #[.int .i64 k, .int .i64 n] w fun e w' => e = .returned (.int .i64 4611686018427387904) ∧ w' = w := by
  have h0 : 0 < k := by omega
  go_enter Tryd.func67, Tryd.ntmps67
  go_wp2
  go_ret
  exact ⟨rfl, rfl⟩
set_option maxHeartbeats 400000 in
theorem reft_mul (k n : Int) (w : World) (h : 1 ≤ k) (_h2 : 1 ≤ n) (h3 : n ≤ 4611686018427387904 / k) (h5 : 0 ≤ k * n) (h6 : k * n ≤ 4611686018427387904) :
    Calls Tryd.prog 67 #[.int .i64 k, .int .i64 n] w fun e w' => e = .returned (.int .i64 (k * n)) ∧ w' = w := by
  have h0 : 0 < k := by omega
  go_enter Tryd.func67, Tryd.ntmps67
  go_wp2
  go_ret
  exact ⟨rfl, rfl⟩
theorem reftimes_any (k n : Int) (w : World) (h : 1 ≤ k) (h2 : 1 ≤ n) :
    Calls Tryd.prog 67 #[.int .i64 k, .int .i64 n] w fun e w' => e = .returned (.int .i64 (timesI k n)) ∧ w' = w := by
  by_cases ht : topI / k < n
  · rw [reftimes_top h h2 ht]; exact reft_top k n w h h2 ht
  · obtain ⟨h4, h5, h6⟩ := reftimes_mul h h2 ht
    rw [h4]; exact reft_mul k n w h h2 (Int.not_lt.1 ht) h5 h6

set_option maxHeartbeats 2000000 in
theorem refmarking_any (b wd m r ce lg st k : Int) (w : World) (hR : RightC b wd m r ce lg st) (hk : 1 ≤ k) :
    Calls Tryd.prog 43 #[.agg #[.int .i64 b, .int .i64 wd, .int .i64 m, .int .i64 r, .int .i64 ce, .int .i64 lg, .int .i64 st], .int .i64 k] w fun e w' => e = .returned (.int .i64 (timesI k (markI b wd m r ce lg))) ∧ Below w.heap.size w w' := by
  obtain ⟨p0, p1⟩ := hR.muts
  obtain ⟨q0, q1⟩ := hR.op
  obtain ⟨s0, s1⟩ := hR.ans
  obtain ⟨n0, n1⟩ := hR.slots1
  have hR' := Lib.hid hR
  obtain ⟨b0, b1, wd0, wd1, m0, m1, r0, r1, ce0, ce1, lg0, lg1, st0, st1⟩ := hR
  have d1 : 1 ≤ 2 * slotsI b wd + 6 := by omega
  have d2 : 1 ≤ timesI k (2 * slotsI b wd + 6) := (timesI_pos hk d1).1
  have d3 : 1 ≤ 40 * slotsI b wd + 2 * m * (lg + 4) + 2 * ce + opI lg wd + ansI r lg + 40 := by omega
  have e1 : IntKind.i64.wrap (2 * slotsI b wd) = 2 * slotsI b wd := IntWalk.i64_in _ (by omega)
  have e2 : IntKind.i64.wrap (2 * slotsI b wd + 6) = 2 * slotsI b wd + 6 := IntWalk.i64_in _ (by omega)
  have e3 : IntKind.i64.wrap (40 * slotsI b wd) = 40 * slotsI b wd := IntWalk.i64_in _ (by omega)
  have e4 : IntKind.i64.wrap (2 * m) = 2 * m := IntWalk.i64_in _ (by omega)
  have e5 : IntKind.i64.wrap (lg + 4) = lg + 4 := IntWalk.i64_in _ (by omega)
  have e6 : IntKind.i64.wrap (2 * m * (lg + 4)) = 2 * m * (lg + 4) := IntWalk.i64_in _ (by omega)
  have e7 : IntKind.i64.wrap (40 * slotsI b wd + 2 * m * (lg + 4)) = 40 * slotsI b wd + 2 * m * (lg + 4) := IntWalk.i64_in _ (by omega)
  have e8 : IntKind.i64.wrap (2 * ce) = 2 * ce := IntWalk.i64_in _ (by omega)
  have e9 : IntKind.i64.wrap (40 * slotsI b wd + 2 * m * (lg + 4) + 2 * ce) = 40 * slotsI b wd + 2 * m * (lg + 4) + 2 * ce := IntWalk.i64_in _ (by omega)
  have e10 : IntKind.i64.wrap (40 * slotsI b wd + 2 * m * (lg + 4) + 2 * ce + opI lg wd) = 40 * slotsI b wd + 2 * m * (lg + 4) + 2 * ce + opI lg wd := IntWalk.i64_in _ (by omega)
  have e11 : IntKind.i64.wrap (40 * slotsI b wd + 2 * m * (lg + 4) + 2 * ce + opI lg wd + ansI r lg) = 40 * slotsI b wd + 2 * m * (lg + 4) + 2 * ce + opI lg wd + ansI r lg := IntWalk.i64_in _ (by omega)
  have e12 : IntKind.i64.wrap (40 * slotsI b wd + 2 * m * (lg + 4) + 2 * ce + opI lg wd + ansI r lg + 40) = 40 * slotsI b wd + 2 * m * (lg + 4) + 2 * ce + opI lg wd + ansI r lg + 40 := IntWalk.i64_in _ (by omega)
  clear p0 p1 q0 q1 s0 s1 n0 n1 b0 b1 wd0 wd1 m0 m1 r0 r1 ce0 ce1 lg0 lg1 st0 st1
  go_enter Tryd.func43, Tryd.ntmps43
  go_wp2_with (go_at_call 38; refine (refslots_any _ _ _ _ _ _ _ _ hR'.out).mono ?_; rintro e w0 ⟨rfl, hb0⟩; have hk0 : ∀ o, w0.cell? ⟨w.heap.size, o, none⟩ = (w.alloc _).cell? ⟨w.heap.size, o, none⟩ := fun o => hb0.cell (p := ⟨w.heap.size, o, none⟩) (by simp); have hz0 : w.heap.size < w0.heap.size := (by have := hb0.size; simp at this; omega))
  go_region_held3 (fun w' => w'.cell? ⟨w.heap.size, 0, none⟩ = some (.int .i64 b) ∧ w'.cell? ⟨w.heap.size, 1, none⟩ = some (.int .i64 wd) ∧ w'.cell? ⟨w.heap.size, 2, none⟩ = some (.int .i64 m)
     ∧ w'.cell? ⟨w.heap.size, 3, none⟩ = some (.int .i64 r) ∧ w'.cell? ⟨w.heap.size, 4, none⟩ = some (.int .i64 ce) ∧ w'.cell? ⟨w.heap.size, 5, none⟩ = some (.int .i64 lg) ∧ w'.cell? ⟨w.heap.size, 6, none⟩ = some (.int .i64 st)) (go_keep)
    (first
      | (go_at_call 39; refine (refop_any _ _ _ _ _ _ _ _ hR'.out).mono ?_; rintro e w1 ⟨rfl, hb1⟩; have hz1 : w.heap.size < w1.heap.size := (by have := hb1.size; first | omega | (simp at this; omega)); have hk1 : ∀ o, w1.cell? ⟨w.heap.size, o, none⟩ = w0.cell? ⟨w.heap.size, o, none⟩ := fun o => hb1.cell (p := ⟨w.heap.size, o, none⟩) hz0)
      | (go_at_call 40; refine (refans_any _ _ _ _ _ _ _ _ hR'.out).mono ?_; rintro e w2 ⟨rfl, hb2⟩; have hz2 : w.heap.size < w2.heap.size := (by have := hb2.size; first | omega | (simp at this; omega)); have hk2 : ∀ o, w2.cell? ⟨w.heap.size, o, none⟩ = w1.cell? ⟨w.heap.size, o, none⟩ := fun o => hb2.cell (p := ⟨w.heap.size, o, none⟩) hz1)
      | (go_at_call 67; refine (reftimes_any _ _ _ (by assumption) (by assumption)).mono ?_; rintro e wx ⟨rfl, rfl⟩))
  rename_i hheld
  clear hheld hk0 hk1 hk2 e1 e2 e3 e4 e5 e6 e7 e8 e9 e10 e11 e12
  go_wp2
  go_ret
  exact ⟨ret_int (refmark_eq hk hR'.out), (((((Below.refl _ _).alloc (Nat.le_refl _) _)).trans (below_drew (hb0.mono (by simp)))).trans (hb1.mono (by simp; omega))).trans (hb2.mono (by omega))⟩

end Go.Proofs.YtahhenbphnejiaaDoor
