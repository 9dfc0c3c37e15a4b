/-
  OpRegs answers true.
-/
import Derived.Test.YtenjllknianieaaDoorOpN
namespace Go.Proofs.YtenjllknianieaaDoor.Opr
open Go.RowKit

set_option maxRecDepth 200000 in
set_option maxHeartbeats 8000000 in
theorem regs_walk (b wd m r ce lg st k a x c : Int) (hr : inI r) (hce : inI ce) (w : World) (ht : FormTab w) (hl : LibTab w) (hm : LimTab w) :
    Calls Tryd.prog 7 #[.agg #[.int .i64 b, .int .i64 wd, .int .i64 m, .int .i64 r, .int .i64 ce, .int .i64 lg, .int .i64 st], .agg #[.int .i64 k, .int .i64 a, .int .i64 x, .int .i64 c]] w
      fun e w' => e = .returned (.bool true) ∧ Below w.heap.size w w' := by
  have HT := Lib.hid ht
  have HL := Lib.hid hl
  have HM := Lib.hid hm
  clear ht hl hm
  unfold inI at hr hce
  obtain ⟨R, hR, hR1, hR2⟩ : ∃ R : Int, max 1 (min 40 r) = R ∧ 1 ≤ R ∧ R ≤ 40 := ⟨_, rfl, by omega, by omega⟩
  obtain ⟨C, hC, hC1, hC2⟩ : ∃ C : Int, max 0 (min 40 ce) = C ∧ 0 ≤ C ∧ C ≤ 40 := ⟨_, rfl, by omega, by omega⟩
  go_enter Tryd.func7, Tryd.ntmps7
  go_wp2_with fail
  go_region
  generalize hw2 : (((w.alloc (.cells #[.int .i64 1, .int .i64 16, .int .i64 1, .int .i64 R, .int .i64 C, .int .i64 1, .int .i64 1] 39)).alloc (.cells #[.int .i64 k, .int .i64 a, .int .i64 x, .int .i64 c] 23)).alloc (.cells #[.int .i64 1, .int .i64 16, .int .i64 1, .int .i64 (R + 7), .int .i64 (C + 7), .int .i64 1, .int .i64 1] 39)).drew = w2
  have hb2 : Below w.heap.size w w2 := by
    rw [← hw2]
    exact ((((Below.refl _ _).alloc (Nat.le_refl _) _).alloc (by simp) _).alloc (by simp; omega) _).drew
  have c0 : ∀ j v, (#[Value.int .i64 1, .int .i64 16, .int .i64 1, .int .i64 R, .int .i64 C, .int .i64 1, .int .i64 1] : Array Value)[j]? = some v → w2.cell? ⟨w.heap.size, j, none⟩ = some v := fun j v hv => by
    rw [← hw2]
    have h1 : Below (w.heap.size + 1) (w.alloc (.cells #[.int .i64 1, .int .i64 16, .int .i64 1, .int .i64 R, .int .i64 C, .int .i64 1, .int .i64 1] 39)) ((((w.alloc (.cells #[.int .i64 1, .int .i64 16, .int .i64 1, .int .i64 R, .int .i64 C, .int .i64 1, .int .i64 1] 39)).alloc (.cells #[.int .i64 k, .int .i64 a, .int .i64 x, .int .i64 c] 23)).alloc (.cells #[.int .i64 1, .int .i64 16, .int .i64 1, .int .i64 (R + 7), .int .i64 (C + 7), .int .i64 1, .int .i64 1] 39)).drew) := (((Below.refl _ _).alloc (by simp) _).alloc (by simp) _).drew
    rw [h1.cell (p := ⟨w.heap.size, j, none⟩) (by show w.heap.size < w.heap.size + 1; omega), World.cell?_alloc_new]
    exact hv
  have c1 : ∀ j v, (#[Value.int .i64 k, .int .i64 a, .int .i64 x, .int .i64 c] : Array Value)[j]? = some v → w2.cell? ⟨w.heap.size + 1, j, none⟩ = some v := fun j v hv => by
    rw [← hw2]
    have h1 : Below (w.heap.size + 2) ((w.alloc (.cells #[.int .i64 1, .int .i64 16, .int .i64 1, .int .i64 R, .int .i64 C, .int .i64 1, .int .i64 1] 39)).alloc (.cells #[.int .i64 k, .int .i64 a, .int .i64 x, .int .i64 c] 23)) ((((w.alloc (.cells #[.int .i64 1, .int .i64 16, .int .i64 1, .int .i64 R, .int .i64 C, .int .i64 1, .int .i64 1] 39)).alloc (.cells #[.int .i64 k, .int .i64 a, .int .i64 x, .int .i64 c] 23)).alloc (.cells #[.int .i64 1, .int .i64 16, .int .i64 1, .int .i64 (R + 7), .int .i64 (C + 7), .int .i64 1, .int .i64 1] 39)).drew) := ((Below.refl _ _).alloc (by simp) _).drew
    rw [h1.cell (p := ⟨w.heap.size + 1, j, none⟩) (by show w.heap.size + 1 < w.heap.size + 2; omega), show w.heap.size + 1 = (w.alloc (.cells #[.int .i64 1, .int .i64 16, .int .i64 1, .int .i64 R, .int .i64 C, .int .i64 1, .int .i64 1] 39)).heap.size by simp, World.cell?_alloc_new]
    exact hv
  have c2 : ∀ j v, (#[Value.int .i64 1, .int .i64 16, .int .i64 1, .int .i64 (R + 7), .int .i64 (C + 7), .int .i64 1, .int .i64 1] : Array Value)[j]? = some v → w2.cell? ⟨w.heap.size + 1 + 1, j, none⟩ = some v ∧ w2.frozen? ⟨w.heap.size + 1 + 1, j, none⟩ = false := fun j v hv => by
    rw [← hw2, show w.heap.size + 1 + 1 = ((w.alloc (.cells #[.int .i64 1, .int .i64 16, .int .i64 1, .int .i64 R, .int .i64 C, .int .i64 1, .int .i64 1] 39)).alloc (.cells #[.int .i64 k, .int .i64 a, .int .i64 x, .int .i64 c] 23)).heap.size by simp]
    refine ⟨?_, ?_⟩
    · show (World.alloc _ _).cell? _ = _
      rw [World.cell?_alloc_new]; exact hv
    · show (World.alloc _ _).frozen? _ = _
      exact World.frozen?_alloc_new _ _ _ _
  clear hw2
  have HB2 := Lib.hid hb2
  have C0 := Lib.hid c0
  have C1 := Lib.hid c1
  have C2 := Lib.hid c2
  clear hb2 c0 c1 c2
  go_wp2_with fail
  have HCK : Hid (∀ R' C' d os, Calls Tryd.prog 27 #[.agg #[.int .i64 1, .int .i64 16, .int .i64 1, .int .i64 R', .int .i64 C', .int .i64 1, .int .i64 1], .agg #[.int .i64 k, .int .i64 a, .int .i64 x, .int .i64 c]] (Sort.grow (redrawn w2 d) os)
      fun e w' => e = .returned (.int .i64 (checkE 1 16 1 R' C' 1 1 k a x c)) ∧ Below (Sort.grow (redrawn w2 d) os).heap.size (Sort.grow (redrawn w2 d) os) w') := Lib.hid fun R' C' d os =>
    check_any 1 16 1 R' C' 1 1 k a x c _ (HT.out.later (HB2.out.trans ((below_regrown w2 d os).mono HB2.out.size))) (HM.out.later (HB2.out.trans ((below_regrown w2 d os).mono HB2.out.size)))
  have d0 := cell_regrown (C0.out 0 _ rfl)
  have d1 := cell_regrown (C0.out 1 _ rfl)
  have d2 := cell_regrown (C0.out 2 _ rfl)
  have d3 := cell_regrown (C0.out 3 _ rfl)
  have d4 := cell_regrown (C0.out 4 _ rfl)
  have d5 := cell_regrown (C0.out 5 _ rfl)
  have d6 := cell_regrown (C0.out 6 _ rfl)
  have e0 := cell_regrown (C1.out 0 _ rfl)
  have e1 := cell_regrown (C1.out 1 _ rfl)
  have e2 := cell_regrown (C1.out 2 _ rfl)
  have e3 := cell_regrown (C1.out 3 _ rfl)
  have f0 := cell_regrown (C2.out 0 _ rfl).1
  have f1 := cell_regrown (C2.out 1 _ rfl).1
  have f2 := cell_regrown (C2.out 2 _ rfl).1
  have f3 := cell_regrown (C2.out 3 _ rfl).1
  have f4 := cell_regrown (C2.out 4 _ rfl).1
  have f5 := cell_regrown (C2.out 5 _ rfl).1
  have f6 := cell_regrown (C2.out 6 _ rfl).1
  refine wp_region_quiet_below (by kernel_rfl) (by kernel_rfl) ?_
  repeat (go_big_quiet_step ((go_at_call 27; exact Calls.regrown_of (HCK.out _ _ _ _))))
  refine wpQuiet_nil ?_
  intro W1 hw'
  have HBW := Lib.hid (below_of_regrown hw')
  clear hw' d0 d1 d2 d3 d4 d5 d6 e0 e1 e2 e3 f0 f1 f2 f3 f4 f5 f6 HCK
  have HMON : Hid (checkE 1 16 1 R C 1 1 k a x c = 0 → checkE 1 16 1 (R + 7) (C + 7) 1 1 k a x c = 0) := Lib.hid fun h => check_mono hR1 (by omega) (by omega) hC1 (by omega) (by omega) h
  generalize hv1 : checkE 1 16 1 R C 1 1 k a x c = v1 at HMON ⊢
  generalize hv2 : checkE 1 16 1 (R + 7) (C + 7) 1 1 k a x c = v2 at HMON ⊢
  clear hv1 hv2
  have CD : Hid (∀ W, Below W1.heap.size W1 W → ∀ j v, (#[Value.int .i64 1, .int .i64 16, .int .i64 1, .int .i64 (R + 7), .int .i64 (C + 7), .int .i64 1, .int .i64 1] : Array Value)[j]? = some v → W.cell? ⟨w.heap.size + 1 + 1, j, none⟩ = some v ∧ W.frozen? ⟨w.heap.size + 1 + 1, j, none⟩ = false) := Lib.hid fun W hW j v hv => by
    obtain ⟨h1, h2⟩ := C2.out j v hv
    have hl := lt_of_cell h1
    exact ⟨(hW.cell (p := ⟨w.heap.size + 1 + 1, j, none⟩) (Nat.lt_of_lt_of_le hl HBW.out.size)).trans ((HBW.out.cell (p := ⟨w.heap.size + 1 + 1, j, none⟩) hl).trans h1),
      (hW.frozen (p := ⟨w.heap.size + 1 + 1, j, none⟩) (Nat.lt_of_lt_of_le hl HBW.out.size)).trans ((HBW.out.frozen (p := ⟨w.heap.size + 1 + 1, j, none⟩) hl).trans h2)⟩
  have CO : Hid (∀ W, Below w2.heap.size w2 W → ∀ j v, (#[Value.int .i64 k, .int .i64 a, .int .i64 x, .int .i64 c] : Array Value)[j]? = some v → W.cell? ⟨w.heap.size + 1, j, none⟩ = some v) := Lib.hid fun W hW j v hv => (hW.cell (p := ⟨w.heap.size + 1, j, none⟩) (lt_of_cell (C1.out j v hv))).trans (C1.out j v hv)
  obtain ⟨g0, _⟩ := CD.out W1 (Below.refl _ _) 0 _ rfl
  obtain ⟨g1, _⟩ := CD.out W1 (Below.refl _ _) 1 _ rfl
  obtain ⟨g2, _⟩ := CD.out W1 (Below.refl _ _) 2 _ rfl
  obtain ⟨g3, z3⟩ := CD.out W1 (Below.refl _ _) 3 _ rfl
  obtain ⟨g4, z4⟩ := CD.out W1 (Below.refl _ _) 4 _ rfl
  obtain ⟨g5, _⟩ := CD.out W1 (Below.refl _ _) 5 _ rfl
  obtain ⟨g6, _⟩ := CD.out W1 (Below.refl _ _) 6 _ rfl
  have o0 := CO.out W1 HBW.out 0 _ rfl
  have o1 := CO.out W1 HBW.out 1 _ rfl
  have o2 := CO.out W1 HBW.out 2 _ rfl
  have o3 := CO.out W1 HBW.out 3 _ rfl
  have hlo := lt_of_cell o0
  have hlg := lt_of_cell g0
  obtain ⟨W2, hW2⟩ : ∃ W2, (W1.setCell ⟨w.heap.size + 1 + 1, 3, none⟩ (.int .i64 64)).setCell ⟨w.heap.size + 1 + 1, 4, none⟩ (.int .i64 64) = W2 := ⟨_, rfl⟩
  have HB3 : Hid (Below w.heap.size w W2) := Lib.hid (by
    rw [← hW2]
    exact (((HB2.out.trans (HBW.out.mono HB2.out.size)).setCell (by simp; omega) _).setCell (by simp; omega) _))
  have HO2 : Hid (∀ W, Below W2.heap.size W2 W → W.cell? ⟨w.heap.size + 1, 1, none⟩ = some (.int .i64 a) ∧ W.cell? ⟨w.heap.size + 1, 2, none⟩ = some (.int .i64 x) ∧ W.cell? ⟨w.heap.size + 1, 3, none⟩ = some (.int .i64 c)) := Lib.hid fun W hW => by
    have hl : w.heap.size + 1 < W2.heap.size := by rw [← hW2]; simpa using hlo
    refine ⟨(hW.cell (p := ⟨w.heap.size + 1, 1, none⟩) hl).trans ?_, (hW.cell (p := ⟨w.heap.size + 1, 2, none⟩) hl).trans ?_, (hW.cell (p := ⟨w.heap.size + 1, 3, none⟩) hl).trans ?_⟩
    all_goals rw [← hW2, World.cell?_setCell_far _ _ _ _ (by simp), World.cell?_setCell_far _ _ _ _ (by simp)]
    all_goals assumption
  have hw2c : ∀ j v, j ≠ 3 → j ≠ 4 → W1.cell? ⟨w.heap.size + 1 + 1, j, none⟩ = some v → W2.cell? ⟨w.heap.size + 1 + 1, j, none⟩ = some v := fun j v n3 n4 h => by
    rw [← hW2, World.cell?_setCell_other _ _ _ _ (by intro e; injection e with _ e2; exact n4 e2.symm), World.cell?_setCell_other _ _ _ _ (by intro e; injection e with _ e2; exact n3 e2.symm), h]
  have y0 := hw2c 0 _ (by decide) (by decide) g0
  have y1 := hw2c 1 _ (by decide) (by decide) g1
  have y2 := hw2c 2 _ (by decide) (by decide) g2
  have y5 := hw2c 5 _ (by decide) (by decide) g5
  have y6 := hw2c 6 _ (by decide) (by decide) g6
  have y3 : W2.cell? ⟨w.heap.size + 1 + 1, 3, none⟩ = some (.int .i64 64) := by
    rw [← hW2, World.cell?_setCell_other _ _ _ _ (by intro e; injection e with _ e2; cases e2), World.cell?_setCell_same _ _ _ g3]
  have y4 : W2.cell? ⟨w.heap.size + 1 + 1, 4, none⟩ = some (.int .i64 64) := by
    rw [← hW2, World.cell?_setCell_same _ _ _ (by rw [World.cell?_setCell_other _ _ _ _ (by intro e; injection e with _ e2; cases e2)]; exact g4)]
  have yo := HO2.out W2 (Below.refl _ _)
  have y7 : W2.cell? ⟨w.heap.size + 1, 0, none⟩ = some (.int .i64 k) := by
    rw [← hW2, World.cell?_setCell_far _ _ _ _ (by simp), World.cell?_setCell_far _ _ _ _ (by simp)]; exact o0
  obtain ⟨y8, y9, y10⟩ := yo
  clear hw2c
  have HCG := Lib.hid (check_any 1 16 1 64 64 1 1 k a x c W2 (HT.out.later HB3.out) (HM.out.later HB3.out))
  have H64 : Hid ((0 ≤ a ∧ a < 64) → (0 ≤ x ∧ x < 64) → (0 ≤ c ∧ c < 64) → checkE 1 16 1 64 64 1 1 k a x c ≠ 5 ∧ checkE 1 16 1 64 64 1 1 k a x c ≠ 9) := Lib.hid fun h1 h2 h3 => check_64 h1 h2 h3
  generalize hcg : checkE 1 16 1 64 64 1 1 k a x c = cg at HCG H64
  clear hcg
  by_cases h : v1 = 0
  · obtain rfl := HMON.out h
    subst h
    go_wp2_with (go_at_call 27; fail)
    refine HCG.out.mono ?_
    rintro e w3 ⟨rfl, hb3⟩
    have HB4 := Lib.hid (HB3.out.trans (hb3.mono HB3.out.size))
    obtain ⟨t1, t2, t3⟩ := HO2.out w3 hb3
    have HT3 := Lib.hid (HT.out.later HB4.out)
    have HL3 := Lib.hid (HL.out.later HB4.out)
    have HM3 := Lib.hid (HM.out.later HB4.out)
    clear hb3 y0 y1 y2 y3 y4 y5 y6 y7 y8 y9 y10 g0 g1 g2 g3 g4 g5 g6 o0 o1 o2 o3 z3 z4
    by_cases s2 : a < 64
    · by_cases s4 : x < 64
      · by_cases s6 : c < 64
        · by_cases s1 : 0 ≤ a
          · by_cases s3 : 0 ≤ x
            · by_cases s5 : 0 ≤ c
              · have hn := Lib.hid (H64.out ⟨s1, s2⟩ ⟨s3, s4⟩ ⟨s5, s6⟩)
                have n5 : (cg != 5) = true := by rw [bne_iff_ne]; exact hn.out.1
                have n9 : (cg != 9) = true := by rw [bne_iff_ne]; exact hn.out.2
                go_wp2_with (go_at_call 21; refine (awake_any _ HT3.out HL3.out HM3.out).mono ?_; rintro e w4 ⟨rfl, hb4⟩; have HB5 := Lib.hid hb4; clear hb4)
                go_ret
                exact ⟨rfl, HB4.out.trans (HB5.out.mono HB4.out.size)⟩
              · go_wp2_with (go_at_call 21; refine (awake_any _ HT3.out HL3.out HM3.out).mono ?_; rintro e w4 ⟨rfl, hb4⟩; have HB5 := Lib.hid hb4; clear hb4)
                go_ret
                exact ⟨rfl, HB4.out.trans (HB5.out.mono HB4.out.size)⟩
            · go_wp2_with (go_at_call 21; refine (awake_any _ HT3.out HL3.out HM3.out).mono ?_; rintro e w4 ⟨rfl, hb4⟩; have HB5 := Lib.hid hb4; clear hb4)
              go_ret
              exact ⟨rfl, HB4.out.trans (HB5.out.mono HB4.out.size)⟩
          · go_wp2_with (go_at_call 21; refine (awake_any _ HT3.out HL3.out HM3.out).mono ?_; rintro e w4 ⟨rfl, hb4⟩; have HB5 := Lib.hid hb4; clear hb4)
            go_ret
            exact ⟨rfl, HB4.out.trans (HB5.out.mono HB4.out.size)⟩
        · go_wp2_with (go_at_call 21; refine (awake_any _ HT3.out HL3.out HM3.out).mono ?_; rintro e w4 ⟨rfl, hb4⟩; have HB5 := Lib.hid hb4; clear hb4)
          go_ret
          exact ⟨rfl, HB4.out.trans (HB5.out.mono HB4.out.size)⟩
      · go_wp2_with (go_at_call 21; refine (awake_any _ HT3.out HL3.out HM3.out).mono ?_; rintro e w4 ⟨rfl, hb4⟩; have HB5 := Lib.hid hb4; clear hb4)
        go_ret
        exact ⟨rfl, HB4.out.trans (HB5.out.mono HB4.out.size)⟩
    · go_wp2_with (go_at_call 21; refine (awake_any _ HT3.out HL3.out HM3.out).mono ?_; rintro e w4 ⟨rfl, hb4⟩; have HB5 := Lib.hid hb4; clear hb4)
      go_ret
      exact ⟨rfl, HB4.out.trans (HB5.out.mono HB4.out.size)⟩
  · have hv1 : (v1 == 0) = false := by rw [beq_eq_false_iff_ne]; exact h
    clear h
    go_wp2_with (go_at_call 27; fail)
    refine HCG.out.mono ?_
    rintro e w3 ⟨rfl, hb3⟩
    have HB4 := Lib.hid (HB3.out.trans (hb3.mono HB3.out.size))
    obtain ⟨t1, t2, t3⟩ := HO2.out w3 hb3
    have HT3 := Lib.hid (HT.out.later HB4.out)
    have HL3 := Lib.hid (HL.out.later HB4.out)
    have HM3 := Lib.hid (HM.out.later HB4.out)
    clear hb3 y0 y1 y2 y3 y4 y5 y6 y7 y8 y9 y10 g0 g1 g2 g3 g4 g5 g6 o0 o1 o2 o3 z3 z4
    by_cases s2 : a < 64
    · by_cases s4 : x < 64
      · by_cases s6 : c < 64
        · by_cases s1 : 0 ≤ a
          · by_cases s3 : 0 ≤ x
            · by_cases s5 : 0 ≤ c
              · have hn := Lib.hid (H64.out ⟨s1, s2⟩ ⟨s3, s4⟩ ⟨s5, s6⟩)
                have n5 : (cg != 5) = true := by rw [bne_iff_ne]; exact hn.out.1
                have n9 : (cg != 9) = true := by rw [bne_iff_ne]; exact hn.out.2
                go_wp2_with (go_at_call 21; refine (awake_any _ HT3.out HL3.out HM3.out).mono ?_; rintro e w4 ⟨rfl, hb4⟩; have HB5 := Lib.hid hb4; clear hb4)
                go_ret
                exact ⟨rfl, HB4.out.trans (HB5.out.mono HB4.out.size)⟩
              · go_wp2_with (go_at_call 21; refine (awake_any _ HT3.out HL3.out HM3.out).mono ?_; rintro e w4 ⟨rfl, hb4⟩; have HB5 := Lib.hid hb4; clear hb4)
                go_ret
                exact ⟨rfl, HB4.out.trans (HB5.out.mono HB4.out.size)⟩
            · go_wp2_with (go_at_call 21; refine (awake_any _ HT3.out HL3.out HM3.out).mono ?_; rintro e w4 ⟨rfl, hb4⟩; have HB5 := Lib.hid hb4; clear hb4)
              go_ret
              exact ⟨rfl, HB4.out.trans (HB5.out.mono HB4.out.size)⟩
          · go_wp2_with (go_at_call 21; refine (awake_any _ HT3.out HL3.out HM3.out).mono ?_; rintro e w4 ⟨rfl, hb4⟩; have HB5 := Lib.hid hb4; clear hb4)
            go_ret
            exact ⟨rfl, HB4.out.trans (HB5.out.mono HB4.out.size)⟩
        · go_wp2_with (go_at_call 21; refine (awake_any _ HT3.out HL3.out HM3.out).mono ?_; rintro e w4 ⟨rfl, hb4⟩; have HB5 := Lib.hid hb4; clear hb4)
          go_ret
          exact ⟨rfl, HB4.out.trans (HB5.out.mono HB4.out.size)⟩
      · go_wp2_with (go_at_call 21; refine (awake_any _ HT3.out HL3.out HM3.out).mono ?_; rintro e w4 ⟨rfl, hb4⟩; have HB5 := Lib.hid hb4; clear hb4)
        go_ret
        exact ⟨rfl, HB4.out.trans (HB5.out.mono HB4.out.size)⟩
    · go_wp2_with (go_at_call 21; refine (awake_any _ HT3.out HL3.out HM3.out).mono ?_; rintro e w4 ⟨rfl, hb4⟩; have HB5 := Lib.hid hb4; clear hb4)
      go_ret
      exact ⟨rfl, HB4.out.trans (HB5.out.mono HB4.out.size)⟩
end Go.Proofs.YtenjllknianieaaDoor.Opr
