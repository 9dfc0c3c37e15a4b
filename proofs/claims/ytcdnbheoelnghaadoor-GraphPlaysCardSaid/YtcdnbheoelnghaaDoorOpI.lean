/-
  The document's Check.
-/
import Derived.Test.YtcdnbheoelnghaaDoorOpH
import Derived.Test.YtcdnbheoelnghaaDoorConfigR
import Derived.Deep.CutBlock
import Derived.Deep.DeepCutAuto
namespace Go.Proofs.YtcdnbheoelnghaaDoor.Opr
open Go.RowKit

theorem belowB_neg {n e : Int} (h : n < 0) : belowB n e = false := by
  unfold belowB
  rw [Bool.and_eq_false_iff]; left
  rw [decide_eq_false_iff_not]; omega
theorem belowB_pos {n e : Int} (h : ¬ n < 0) : belowB n e = !decide (e ≤ n) := by
  unfold belowB
  rw [decide_eq_true (by omega), Bool.true_and, Bool.eq_iff_iff]
  simp

set_option maxRecDepth 200000 in
set_option maxHeartbeats 8000000 in
theorem refcheck_any (b wd m r ce lg st : Int) (k a x c : Int) (w : World) :
    Calls Tryd.prog 28 #[.agg #[.int .i64 b, .int .i64 wd, .int .i64 m, .int .i64 r, .int .i64 ce, .int .i64 lg, .int .i64 st], .agg #[.int .i64 k, .int .i64 a, .int .i64 x, .int .i64 c]] w
      fun e w' => e = .returned (.int .i64 (checkE b wd m r ce lg st k a x c)) ∧ Below w.heap.size w w' := by
  have hA : Below w.heap.size w ((w.alloc (.cells #[.int .i64 b, .int .i64 wd, .int .i64 m, .int .i64 r, .int .i64 ce, .int .i64 lg, .int .i64 st] 23)).alloc (.cells #[.int .i64 k, .int .i64 a, .int .i64 x, .int .i64 c] 39)) := ((Below.refl _ _).alloc (Nat.le_refl _) _).alloc (by simp) _
  have HA := Lib.hid hA
  clear hA
  have HR := Lib.hid (refright_any b wd m r ce lg st)
  have HW := Lib.hid (refword_any k)
  have hwe := word_empty k
  go_enter Tryd.func28, Tryd.ntmps28
  go_wp2_with (go_at_call 50; fail)
  refine (HR.out _).mono ?_
  rw [← rightB_ref]
  rintro e w1 ⟨rfl, hb1⟩
  have HB1 : Hid (Below w.heap.size w w1) := Lib.hid (HA.out.trans (hb1.mono HA.out.size))
  have hc1 : ∀ j v, (#[Value.int .i64 b, .int .i64 wd, .int .i64 m, .int .i64 r, .int .i64 ce, .int .i64 lg, .int .i64 st] : Array Value)[j]? = some v → w1.cell? ⟨w.heap.size, j, none⟩ = some v := fun j v hv =>
    (hb1.cell (p := ⟨w.heap.size, j, none⟩) (by show w.heap.size < _; simp only [World.size_alloc]; omega)).trans (((Below.refl (w.heap.size + 1) (w.alloc (.cells #[.int .i64 b, .int .i64 wd, .int .i64 m, .int .i64 r, .int .i64 ce, .int .i64 lg, .int .i64 st] 23))).alloc (by simp) _).cell (p := ⟨w.heap.size, j, none⟩) (by show w.heap.size < w.heap.size + 1; omega) |>.trans (by rw [World.cell?_alloc_new]; exact hv))
  have ho1 : ∀ j v, (#[Value.int .i64 k, .int .i64 a, .int .i64 x, .int .i64 c] : Array Value)[j]? = some v → w1.cell? ⟨w.heap.size + 1, j, none⟩ = some v := fun j v hv =>
    (hb1.cell (p := ⟨w.heap.size + 1, j, none⟩) (by show w.heap.size + 1 < _; simp only [World.size_alloc]; omega)).trans (by
      rw [show w.heap.size + 1 = (w.alloc (.cells #[.int .i64 b, .int .i64 wd, .int .i64 m, .int .i64 r, .int .i64 ce, .int .i64 lg, .int .i64 st] 23)).heap.size by simp, World.cell?_alloc_new]; exact hv)
  have q3 := hc1 3 _ rfl
  have q4 := hc1 4 _ rfl
  have hk1 := ho1 0 _ rfl
  have hk2 := ho1 1 _ rfl
  have hk3 := ho1 2 _ rfl
  have hk4 := ho1 3 _ rfl
  clear hb1 hc1 ho1 HR
  cases hr : rightB b wd m r ce lg st with
  | false =>
    have HE := Lib.hid (show checkE b wd m r ce lg st k a x c = 1 by unfold checkE; rw [hr]; simp)
    clear q3 q4 hk1 hk2 hk3 hk4
    go_wp2_with fail
    go_ret
    exact ⟨by rw [HE.out]; rfl, HB1.out⟩
  | true =>
    cases hk : isK k with
    | false =>
      have HE := Lib.hid (show checkE b wd m r ce lg st k a x c = 1 by unfold checkE; rw [hk]; simp)
      rw [hk] at hwe
      simp only [Bool.not_false] at hwe
      clear q3 q4 hk2 hk3 hk4
      go_wp2_with (go_at_call 51; refine (HW.out _).mono ?_; rintro e w9 ⟨rfl, hw9⟩; obtain rfl : w1 = w9 := hw9.symm)
      go_ret
      exact ⟨by rw [HE.out]; rfl, HB1.out⟩
    | true =>
      have HE := Lib.hid (show checkE b wd m r ce lg st k a x c = firstF r ce k.toNat (numAt a x c) (usesK k.toNat) 0 by unfold checkE; rw [hr, hk]; simp)
      rw [hk] at hwe
      simp only [Bool.not_true] at hwe
      have HK := Lib.hid hk
      go_upto_region 3 with (go_at_call 51; refine (HW.out _).mono ?_; rintro e w9 ⟨rfl, hw9⟩; obtain rfl : w1 = w9 := hw9.symm)
      go_cut [5, 6, 7] (fun p q s wx => p = .bool (!belowB a r) ∧ q = .bool (!belowB x r) ∧ s = .bool (!belowB c r) ∧ ∃ n, wx = w1.drewN n)
      case first =>
        by_cases g1 : a < 0
        · by_cases g2 : x < 0
          · by_cases g3 : c < 0
            · have e1 := Lib.hid (belowB_neg (e := r) g1)
              have e2 := Lib.hid (belowB_neg (e := r) g2)
              have e3 := Lib.hid (belowB_neg (e := r) g3)
              go_quiet (fail)
              go_wp2_with fail
              go_meet
              case rel => exact ⟨by rw [e1.out]; rfl, by rw [e2.out]; rfl, by rw [e3.out]; rfl, _, rfl⟩
            · have e1 := Lib.hid (belowB_neg (e := r) g1)
              have e2 := Lib.hid (belowB_neg (e := r) g2)
              have e3 := Lib.hid (belowB_pos (e := r) g3)
              go_quiet (fail)
              go_wp2_with fail
              go_meet
              case rel => exact ⟨by rw [e1.out]; rfl, by rw [e2.out]; rfl, by rw [e3.out]; simp, _, rfl⟩
          · by_cases g3 : c < 0
            · have e1 := Lib.hid (belowB_neg (e := r) g1)
              have e2 := Lib.hid (belowB_pos (e := r) g2)
              have e3 := Lib.hid (belowB_neg (e := r) g3)
              go_quiet (fail)
              go_wp2_with fail
              go_meet
              case rel => exact ⟨by rw [e1.out]; rfl, by rw [e2.out]; simp, by rw [e3.out]; rfl, _, rfl⟩
            · have e1 := Lib.hid (belowB_neg (e := r) g1)
              have e2 := Lib.hid (belowB_pos (e := r) g2)
              have e3 := Lib.hid (belowB_pos (e := r) g3)
              go_quiet (fail)
              go_wp2_with fail
              go_meet
              case rel => exact ⟨by rw [e1.out]; rfl, by rw [e2.out]; simp, by rw [e3.out]; simp, _, rfl⟩
        · by_cases g2 : x < 0
          · by_cases g3 : c < 0
            · have e1 := Lib.hid (belowB_pos (e := r) g1)
              have e2 := Lib.hid (belowB_neg (e := r) g2)
              have e3 := Lib.hid (belowB_neg (e := r) g3)
              go_quiet (fail)
              go_wp2_with fail
              go_meet
              case rel => exact ⟨by rw [e1.out]; simp, by rw [e2.out]; rfl, by rw [e3.out]; rfl, _, rfl⟩
            · have e1 := Lib.hid (belowB_pos (e := r) g1)
              have e2 := Lib.hid (belowB_neg (e := r) g2)
              have e3 := Lib.hid (belowB_pos (e := r) g3)
              go_quiet (fail)
              go_wp2_with fail
              go_meet
              case rel => exact ⟨by rw [e1.out]; simp, by rw [e2.out]; rfl, by rw [e3.out]; simp, _, rfl⟩
          · by_cases g3 : c < 0
            · have e1 := Lib.hid (belowB_pos (e := r) g1)
              have e2 := Lib.hid (belowB_pos (e := r) g2)
              have e3 := Lib.hid (belowB_neg (e := r) g3)
              go_quiet (fail)
              go_wp2_with fail
              go_meet
              case rel => exact ⟨by rw [e1.out]; simp, by rw [e2.out]; simp, by rw [e3.out]; rfl, _, rfl⟩
            · have e1 := Lib.hid (belowB_pos (e := r) g1)
              have e2 := Lib.hid (belowB_pos (e := r) g2)
              have e3 := Lib.hid (belowB_pos (e := r) g3)
              go_quiet (fail)
              go_wp2_with fail
              go_meet
              case rel => exact ⟨by rw [e1.out]; simp, by rw [e2.out]; simp, by rw [e3.out]; simp, _, rfl⟩
      case rest =>
        obtain ⟨rfl, rfl, rfl, nq, rfl⟩ := hcut
        have HBQ : Hid (Below w.heap.size w (w1.drewN nq)) := Lib.hid (below_drewN HB1.out nq)
        rcases isK_cases HK.out with rfl | rfl | rfl | rfl | rfl | rfl | rfl | rfl
        · cases h1 : belowB a r with
          | false =>
            go_wp2_with fail
            go_ret
            exact ⟨by rw [HE.out]; simp [firstF, faultE, useK, usesK, numAt, h1], HBQ.out⟩
          | true =>
            by_cases g1 : x < 0
            · have h6 := Lib.hid (belowB_neg (e := 16) g1)
              go_wp2_with fail
              go_ret
              exact ⟨by rw [HE.out]; simp [firstF, faultE, useK, usesK, numAt, h1, h6.out], HBQ.out⟩
            · by_cases g2 : 15 < x
              · have h6 := Lib.hid (show belowB x 16 = false by rw [belowB_pos g1, decide_eq_true (by omega)]; rfl)
                go_wp2_with fail
                go_ret
                exact ⟨by rw [HE.out]; simp [firstF, faultE, useK, usesK, numAt, h1, h6.out], HBQ.out⟩
              · have h6 := Lib.hid (show belowB x 16 = true by rw [belowB_pos g1, decide_eq_false (by omega)]; rfl)
                go_wp2_with fail
                go_ret
                exact ⟨by rw [HE.out]; simp [firstF, faultE, useK, usesK, numAt, h1, h6.out], HBQ.out⟩
        · cases h1 : belowB a r with
          | false =>
            go_wp2_with fail
            go_ret
            exact ⟨by rw [HE.out]; simp [firstF, faultE, useK, usesK, numAt, h1], HBQ.out⟩
          | true =>
            cases h2 : belowB x r with
            | false =>
              go_wp2_with fail
              go_ret
              exact ⟨by rw [HE.out]; simp [firstF, faultE, useK, usesK, numAt, h1, h2], HBQ.out⟩
            | true =>
              go_wp2_with fail
              go_ret
              exact ⟨by rw [HE.out]; simp [firstF, faultE, useK, usesK, numAt, h1, h2], HBQ.out⟩
        · cases h1 : belowB a r with
          | false =>
            go_wp2_with fail
            go_ret
            exact ⟨by rw [HE.out]; simp [firstF, faultE, useK, usesK, numAt, h1], HBQ.out⟩
          | true =>
            cases h2 : belowB c r with
            | false =>
              go_wp2_with fail
              go_ret
              exact ⟨by rw [HE.out]; simp [firstF, faultE, useK, usesK, numAt, h1, h2], HBQ.out⟩
            | true =>
              go_wp2_with fail
              go_ret
              exact ⟨by rw [HE.out]; simp [firstF, faultE, useK, usesK, numAt, h1, h2], HBQ.out⟩
        · cases h1 : belowB a r with
          | false =>
            go_wp2_with fail
            go_ret
            exact ⟨by rw [HE.out]; simp [firstF, faultE, useK, usesK, numAt, h1], HBQ.out⟩
          | true =>
            by_cases g1 : x < 0
            · have h6 := Lib.hid (belowB_neg (e := ce) g1)
              go_wp2_with fail
              go_ret
              exact ⟨by rw [HE.out]; simp [firstF, faultE, useK, usesK, numAt, h1, h6.out], HBQ.out⟩
            · by_cases g2 : ce ≤ x
              · have h6 := Lib.hid (show belowB x ce = false by rw [belowB_pos g1, decide_eq_true g2]; rfl)
                go_wp2_with fail
                go_ret
                exact ⟨by rw [HE.out]; simp [firstF, faultE, useK, usesK, numAt, h1, h6.out], HBQ.out⟩
              · have h6 := Lib.hid (show belowB x ce = true by rw [belowB_pos g1, decide_eq_false g2]; rfl)
                go_wp2_with fail
                go_ret
                exact ⟨by rw [HE.out]; simp [firstF, faultE, useK, usesK, numAt, h1, h6.out], HBQ.out⟩
        · skip
          by_cases g1 : a < 0
          · have h6 := Lib.hid (belowB_neg (e := ce) g1)
            go_wp2_with fail
            go_ret
            exact ⟨by rw [HE.out]; simp [firstF, faultE, useK, usesK, numAt, h6.out], HBQ.out⟩
          · by_cases g2 : ce ≤ a
            · have h6 := Lib.hid (show belowB a ce = false by rw [belowB_pos g1, decide_eq_true g2]; rfl)
              go_wp2_with fail
              go_ret
              exact ⟨by rw [HE.out]; simp [firstF, faultE, useK, usesK, numAt, h6.out], HBQ.out⟩
            · have h6 := Lib.hid (show belowB a ce = true by rw [belowB_pos g1, decide_eq_false g2]; rfl)
              cases h2 : belowB x r with
              | false =>
                go_wp2_with fail
                go_ret
                exact ⟨by rw [HE.out]; simp [firstF, faultE, useK, usesK, numAt, h6.out, h2], HBQ.out⟩
              | true =>
                go_wp2_with fail
                go_ret
                exact ⟨by rw [HE.out]; simp [firstF, faultE, useK, usesK, numAt, h6.out, h2], HBQ.out⟩
        · cases h1 : belowB a r with
          | false =>
            go_wp2_with fail
            go_ret
            exact ⟨by rw [HE.out]; simp [firstF, faultE, useK, usesK, numAt, h1], HBQ.out⟩
          | true =>
            go_wp2_with fail
            go_ret
            exact ⟨by rw [HE.out]; simp [firstF, faultE, useK, usesK, numAt, h1], HBQ.out⟩
        · cases h1 : belowB a r with
          | false =>
            go_wp2_with fail
            go_ret
            exact ⟨by rw [HE.out]; simp [firstF, faultE, useK, usesK, numAt, h1], HBQ.out⟩
          | true =>
            cases h2 : belowB x r with
            | false =>
              go_wp2_with fail
              go_ret
              exact ⟨by rw [HE.out]; simp [firstF, faultE, useK, usesK, numAt, h1, h2], HBQ.out⟩
            | true =>
              go_wp2_with fail
              go_ret
              exact ⟨by rw [HE.out]; simp [firstF, faultE, useK, usesK, numAt, h1, h2], HBQ.out⟩
        · skip
          go_wp2_with fail
          go_ret
          exact ⟨by rw [HE.out]; rfl, HBQ.out⟩
end Go.Proofs.YtcdnbheoelnghaaDoor.Opr
