/-
  OpUses answers true.
-/
import Derived.Test.YtenjllknianieaaDoorOpQ
namespace Go.Proofs.YtenjllknianieaaDoor.Opr
open Go.RowKit

set_option maxRecDepth 200000 in
set_option maxHeartbeats 8000000 in
theorem uses_walk (b wd m r ce lg st k a x c n0 n1 : Int) (ha : inI a) (hx : inI x) (hc : inI c) (hn0 : inI n0) (hn1 : inI n1) (w : World) (ht : FormTab w) (hl : LibTab w) (hm : LimTab w) :
    Calls Tryd.prog 6 #[.agg #[.int .i64 b, .int .i64 wd, .int .i64 m, .int .i64 r, .int .i64 ce, .int .i64 lg, .int .i64 st], .agg #[.int .i64 k, .int .i64 a, .int .i64 x, .int .i64 c], .agg #[.int .i64 n0, .int .i64 n1]] w
      fun e w' => e = .returned (.bool true) ∧ Below w.heap.size w w' := by
  have HT := Lib.hid ht
  have HL := Lib.hid hl
  have HM := Lib.hid hm
  clear ht hl hm
  obtain ⟨w0, hw0⟩ : ∃ w0, ((w.alloc (.cells #[.int .i64 b, .int .i64 wd, .int .i64 m, .int .i64 r, .int .i64 ce, .int .i64 lg, .int .i64 st] 39)).alloc (.cells #[.int .i64 k, .int .i64 a, .int .i64 x, .int .i64 c] 23)).alloc (.cells #[.int .i64 n0, .int .i64 n1] 46) = w0 := ⟨_, rfl⟩
  have HA : Hid (Below w.heap.size w w0) := Lib.hid (by rw [← hw0]; exact (((Below.refl _ _).alloc (Nat.le_refl _) _).alloc (by simp) _).alloc (by simp; omega) _)
  have HS0 : Hid (w0.heap.size = w.heap.size + 3) := Lib.hid (by rw [← hw0]; simp)
  have HC0 : Hid (CellsAt w0 w.heap.size [.int .i64 b, .int .i64 wd, .int .i64 m, .int .i64 r, .int .i64 ce, .int .i64 lg, .int .i64 st] ∧ CellsAt w0 (w.heap.size + 1) [.int .i64 k, .int .i64 a, .int .i64 x, .int .i64 c] ∧ CellsAt w0 (w.heap.size + 1 + 1) [.int .i64 n0, .int .i64 n1]) := Lib.hid (by
    rw [← hw0]
    refine ⟨((CellsAt.new _ _ _).later ((Below.refl _ _).alloc (Nat.le_refl _) _)).later ((Below.refl _ _).alloc (Nat.le_refl _) _), ((CellsAt.new _ _ _).later ((Below.refl _ _).alloc (Nat.le_refl _) _)).at (by simp), (CellsAt.new _ _ _).at (by simp)⟩)
  obtain ⟨K, hK⟩ : ∃ K, bK k = K := ⟨_, rfl⟩
  obtain ⟨A, hA⟩ : ∃ A, bN k (numAt a x c) 0 = A := ⟨_, rfl⟩
  obtain ⟨X, hX⟩ : ∃ X, bN k (numAt a x c) 1 = X := ⟨_, rfl⟩
  obtain ⟨C, hC⟩ : ∃ C, bN k (numAt a x c) 2 = C := ⟨_, rfl⟩
  have hb1 : bareV k a x c = opV K A X C := by rw [bareV_eq, hK, hA, hX, hC]
  have hb2 : bareV K A X C = opV K A X C := by rw [← hK, ← hA, ← hX, ← hC]; exact bare_bare k _
  have hc2 : checkE b wd m r ce lg st K A X C = checkE b wd m r ce lg st k a x c := by rw [← hK, ← hA, ← hX, ← hC]; exact check_bare _
  have HBA : Hid (∀ W, Below w.heap.size w W → Calls Tryd.prog 20 #[.agg #[.int .i64 k, .int .i64 a, .int .i64 x, .int .i64 c]] W fun e w' => e = .returned (.agg #[.int .i64 K, .int .i64 A, .int .i64 X, .int .i64 C]) ∧ Below W.heap.size W w') := Lib.hid fun W hW => by
    have := bare_any k a x c W (HT.out.later hW)
    rw [hb1] at this; exact this
  have HBB : Hid (∀ W, Below w.heap.size w W → Calls Tryd.prog 20 #[.agg #[.int .i64 K, .int .i64 A, .int .i64 X, .int .i64 C]] W fun e w' => e = .returned (.agg #[.int .i64 K, .int .i64 A, .int .i64 X, .int .i64 C]) ∧ Below W.heap.size W w') := Lib.hid fun W hW => by
    have := bare_any K A X C W (HT.out.later hW)
    rw [hb2] at this; exact this
  obtain ⟨v, hv⟩ : ∃ v, checkE b wd m r ce lg st k a x c = v := ⟨_, rfl⟩
  have HCK : Hid (∀ W, Below w.heap.size w W → ∀ k' a' x' c', checkE b wd m r ce lg st k' a' x' c' = v → Calls Tryd.prog 27 #[.agg #[.int .i64 b, .int .i64 wd, .int .i64 m, .int .i64 r, .int .i64 ce, .int .i64 lg, .int .i64 st], .agg #[.int .i64 k', .int .i64 a', .int .i64 x', .int .i64 c']] W
      fun e w' => e = .returned (.int .i64 v) ∧ Below W.heap.size W w') := Lib.hid fun W hW k' a' x' c' h => by
    have := check_any b wd m r ce lg st k' a' x' c' W (HT.out.later hW) (HM.out.later hW)
    rw [h] at this; exact this
  have HV : Hid (checkE b wd m r ce lg st k a x c = v ∧ checkE b wd m r ce lg st K A X C = v) := Lib.hid ⟨hv, hc2.trans hv⟩
  have HBX : Hid (∀ x' c', (∀ p, p < usesI k → numAt a x c p = numAt a x' c' p) → bareV k a x' c' = opV K A X C ∧ checkE b wd m r ce lg st k a x' c' = v ∧ lineI k a x' c' = lineI k a x c) := Lib.hid fun x' c' h => by
    refine ⟨?_, ?_, (line_congr h).symm⟩
    · rw [bareV_eq, ← bN_congr h 0, ← bN_congr h 1, ← bN_congr h 2, hK, hA, hX, hC]
    · rw [← hv]; exact (check_congr h).symm
  have hne := run_ne_op K A X C K A X C
  rw [eqOp_self] at hne
  have heq := run_eq_op K A X C K A X C
  rw [eqOp_self] at heq
  have hgd := guardOp
  clear hK hA hX hC hb1 hb2 hc2 hv
  go_enter Tryd.func6, Tryd.ntmps6
  have o0 := HC0.out.2.1 0 _ rfl
  have o1 := HC0.out.2.1 1 _ rfl
  have o2 := HC0.out.2.1 2 _ rfl
  have o3 := HC0.out.2.1 3 _ rfl
  go_wp2_with (go_at_call 20; fail)
  refine (HBA.out _ HA.out).mono ?_
  rintro e w1 ⟨rfl, hb1⟩
  obtain ⟨w2, hw2⟩ : ∃ w2, w1.alloc (.cells #[.int .i64 K, .int .i64 A, .int .i64 X, .int .i64 C] 23) = w2 := ⟨_, rfl⟩
  have hb2 : Below w1.heap.size w1 w2 := by rw [← hw2]; exact (Below.refl _ _).alloc (Nat.le_refl _) _
  have hb02 := hb1.trans (hb2.mono hb1.size)
  have HB2 : Hid (Below w.heap.size w w2) := Lib.hid (HA.out.trans (hb02.mono HA.out.size))
  have HC2 : Hid (CellsAt w2 w.heap.size [.int .i64 b, .int .i64 wd, .int .i64 m, .int .i64 r, .int .i64 ce, .int .i64 lg, .int .i64 st] ∧ CellsAt w2 (w.heap.size + 1) [.int .i64 k, .int .i64 a, .int .i64 x, .int .i64 c] ∧ CellsAt w2 (w.heap.size + 1 + 1) [.int .i64 n0, .int .i64 n1] ∧ CellsAt w2 w1.heap.size [.int .i64 K, .int .i64 A, .int .i64 X, .int .i64 C]) :=
    Lib.hid ⟨HC0.out.1.later hb02, HC0.out.2.1.later hb02, HC0.out.2.2.later hb02, by rw [← hw2]; exact CellsAt.new _ _ _⟩
  have HS1 : Hid (w.heap.size + 3 ≤ w1.heap.size ∧ w1.heap.size < w2.heap.size) := Lib.hid ⟨by have := hb1.size; have := HS0.out; omega, by rw [← hw2]; simp⟩
  clear hb1 hb2 hb02 o0 o1 o2 o3
  have o0 := HC2.out.2.1 0 _ rfl
  have o1 := HC2.out.2.1 1 _ rfl
  have o2 := HC2.out.2.1 2 _ rfl
  have o3 := HC2.out.2.1 3 _ rfl
  have c0 := HC2.out.1 0 _ rfl
  have c1 := HC2.out.1 1 _ rfl
  have c2 := HC2.out.1 2 _ rfl
  have c3 := HC2.out.1 3 _ rfl
  have c4 := HC2.out.1 4 _ rfl
  have c5 := HC2.out.1 5 _ rfl
  have c6 := HC2.out.1 6 _ rfl
  have p0 := HC2.out.2.2.2 0 _ rfl
  have p1 := HC2.out.2.2.2 1 _ rfl
  have p2 := HC2.out.2.2.2 2 _ rfl
  have p3 := HC2.out.2.2.2 3 _ rfl
  go_wp2_with fail
  have d0 := cell_regrown o0
  have d1 := cell_regrown o1
  have d2 := cell_regrown o2
  have d3 := cell_regrown o3
  have e0 := cell_regrown c0
  have e1 := cell_regrown c1
  have e2 := cell_regrown c2
  have e3 := cell_regrown c3
  have e4 := cell_regrown c4
  have e5 := cell_regrown c5
  have e6 := cell_regrown c6
  have f0 := cell_regrown p0
  have f1 := cell_regrown p1
  have f2 := cell_regrown p2
  have f3 := cell_regrown p3
  have HGR : Hid (∀ d os, Below w.heap.size w (Sort.grow (redrawn w2 d) os)) := Lib.hid fun d os => HB2.out.trans ((below_regrown w2 d os).mono HB2.out.size)
  refine wp_region_quiet_below (by kernel_rfl) (by kernel_rfl) ?_
  repeat (go_big_quiet_step (first
    | (go_at_call 20; exact Calls.regrown_of (HBB.out _ (HGR.out _ _)))
    | (go_at_call 27; refine Calls.regrown_of (HCK.out _ (HGR.out _ _) _ _ _ _ ?_); with_reducible (first | exact HV.out.2 | exact HV.out.1))))
  refine wpQuiet_nil ?_
  intro W1 hw'
  have HBW := Lib.hid (below_of_regrown hw')
  clear hw' d0 d1 d2 d3 e0 e1 e2 e3 e4 e5 e6 f0 f1 f2 f3 o0 o1 o2 o3 c0 c1 c2 c3 c4 c5 c6 p0 p1 p2 p3
  have HUS : Hid (∀ W, FormTab W → Calls Tryd.prog 18 #[.int .i64 k] W fun e w' => e = .returned (.int .i64 (usesI k)) ∧ w' = W) := Lib.hid fun W h => uses_any k W h
  obtain ⟨ec, hg⟩ : ∃ ec : Int, (if isK k = true then (0 : Int) else 1) = ec := ⟨_, rfl⟩
  have HG := Lib.hid hg
  clear hg
  have o0 := (HC2.out.2.1.later HBW.out) 0 _ rfl
  have o1 := (HC2.out.2.1.later HBW.out) 1 _ rfl
  have o2 := (HC2.out.2.1.later HBW.out) 2 _ rfl
  have o3 := (HC2.out.2.1.later HBW.out) 3 _ rfl
  have r0 := (HC2.out.2.2.1.later HBW.out) 0 _ rfl
  have r1 := (HC2.out.2.2.1.later HBW.out) 1 _ rfl
  have hl1 : w.heap.size + 1 < W1.heap.size := lt_of_cell o0
  have hl2 : w.heap.size + 1 + 1 < W1.heap.size := lt_of_cell r0
  have hfm : FormTab W1 := (HT.out.later HB2.out).later HBW.out
  have HFM := Lib.hid hfm
  clear hfm
  have hu := usesI_le k
  generalize usesI k = u at *
  have hu4 : u = 0 ∨ u = 1 ∨ u = 2 ∨ u = 3 := by omega
  rcases hu4 with rfl | rfl | rfl | rfl
  · have HXX := Lib.hid (HBX.out n1 n0 (fun p hp => by
      have h3 : p = 0 ∨ p = 1 ∨ p = 2 := by omega
      rcases h3 with rfl | rfl | rfl <;> first | rfl | omega))
    clear HBX
    go_wp2_with (first
      | (go_at_call 18; refine (HUS.out _ (by first | exact HFM.out.alloc _)).mono ?_; rintro e w9 ⟨rfl, rfl⟩)
      | (go_at_call 14; fail))
    obtain ⟨W2, hW2⟩ : ∃ W2, W1.alloc (.cells #[.int .i64 k, .int .i64 a, .int .i64 n1, .int .i64 n0] 23) = W2 := ⟨_, rfl⟩
    have hbw2 : Below W1.heap.size W1 W2 := by rw [← hW2]; exact (Below.refl _ _).alloc (Nat.le_refl _) _
    have hc2 : CellsAt W2 W1.heap.size [.int .i64 k, .int .i64 a, .int .i64 n1, .int .i64 n0] := by rw [← hW2]; exact CellsAt.new _ _ _
    have hlt2 : W1.heap.size < W2.heap.size := by rw [← hW2]; simp
    rw [hW2]
    have hb22 := HBW.out.trans (hbw2.mono HBW.out.size)
    have HBT : Hid (Below w.heap.size w W2) := Lib.hid (HB2.out.trans (hb22.mono HB2.out.size))
    refine (line_any k a x c ha hx hc W2 (HT.out.later HBT.out) (HL.out.later HBT.out)).mono ?_
    rw [HG.out]
    rintro e w3 ⟨rfl, hb3⟩
    have HBT3 : Hid (Below w.heap.size w w3) := Lib.hid (HBT.out.trans (hb3.mono HBT.out.size))
    have HX3 : Hid (CellsAt w3 W1.heap.size [.int .i64 k, .int .i64 a, .int .i64 n1, .int .i64 n0]) := Lib.hid (hc2.later hb3)
    have HC3 : Hid (Below w2.heap.size w2 w3) := Lib.hid (hb22.trans (hb3.mono hb22.size))
    clear hb3 hc2 hb22 hbw2 hW2
    have x0 := HX3.out 0 _ rfl
    have x1 := HX3.out 1 _ rfl
    have x2 := HX3.out 2 _ rfl
    have x3 := HX3.out 3 _ rfl
    go_wp2_with (go_at_call 14; fail)
    refine (line_any k a n1 n0 ha hn1 hn0 w3 (HT.out.later HBT3.out) (HL.out.later HBT3.out)).mono ?_
    rw [HG.out, HXX.out.2.2]
    rintro e w4 ⟨rfl, hb4⟩
    have HBT4 : Hid (Below w.heap.size w w4) := Lib.hid (HBT3.out.trans (hb4.mono HBT3.out.size))
    have HX4 : Hid (CellsAt w4 W1.heap.size [.int .i64 k, .int .i64 a, .int .i64 n1, .int .i64 n0]) := Lib.hid (HX3.out.later hb4)
    have HC4 : Hid (Below w2.heap.size w2 w4) := Lib.hid (HC3.out.trans (hb4.mono HC3.out.size))
    clear hb4 x0 x1 x2 x3
    have hsq : ((bs (lineI k a x c)).toList == (bs (lineI k a x c)).toList) = true := by simp
    generalize bs (lineI k a x c) = ls at hsq ⊢
    have x0 := HX4.out 0 _ rfl
    have x1 := HX4.out 1 _ rfl
    have x2 := HX4.out 2 _ rfl
    have x3 := HX4.out 3 _ rfl
    have o0 := (HC2.out.2.1.later HC4.out) 0 _ rfl
    have o1 := (HC2.out.2.1.later HC4.out) 1 _ rfl
    have o2 := (HC2.out.2.1.later HC4.out) 2 _ rfl
    have o3 := (HC2.out.2.1.later HC4.out) 3 _ rfl
    have c0 := (HC2.out.1.later HC4.out) 0 _ rfl
    have c1 := (HC2.out.1.later HC4.out) 1 _ rfl
    have c2 := (HC2.out.1.later HC4.out) 2 _ rfl
    have c3 := (HC2.out.1.later HC4.out) 3 _ rfl
    have c4 := (HC2.out.1.later HC4.out) 4 _ rfl
    have c5 := (HC2.out.1.later HC4.out) 5 _ rfl
    have c6 := (HC2.out.1.later HC4.out) 6 _ rfl
    have p0 := (HC2.out.2.2.2.later HC4.out) 0 _ rfl
    have p1 := (HC2.out.2.2.2.later HC4.out) 1 _ rfl
    have p2 := (HC2.out.2.2.2.later HC4.out) 2 _ rfl
    have p3 := (HC2.out.2.2.2.later HC4.out) 3 _ rfl
    have HBX2 : Hid (∀ W, Below w.heap.size w W → Calls Tryd.prog 20 #[.agg #[.int .i64 k, .int .i64 a, .int .i64 n1, .int .i64 n0]] W fun e w' => e = .returned (.agg #[.int .i64 K, .int .i64 A, .int .i64 X, .int .i64 C]) ∧ Below W.heap.size W w') := Lib.hid fun W hW => by
      have := bare_any k a n1 n0 W (HT.out.later hW)
      rw [HXX.out.1] at this; exact this
    have HAW : Hid (∀ W, Below w.heap.size w W → Calls Tryd.prog 21 #[] W fun e w' => e = .returned (.bool true) ∧ Below W.heap.size W w') := Lib.hid fun W hW => awake_any W (HT.out.later hW) (HL.out.later hW) (HM.out.later hW)
    have HV2 : Hid (checkE b wd m r ce lg st k a n1 n0 = v) := Lib.hid HXX.out.2.1
    go_wp2_with fail
    have d0 := cell_regrown o0
    have d1 := cell_regrown o1
    have d2 := cell_regrown o2
    have d3 := cell_regrown o3
    have e0 := cell_regrown c0
    have e1 := cell_regrown c1
    have e2 := cell_regrown c2
    have e3 := cell_regrown c3
    have e4 := cell_regrown c4
    have e5 := cell_regrown c5
    have e6 := cell_regrown c6
    have f0 := cell_regrown p0
    have f1 := cell_regrown p1
    have f2 := cell_regrown p2
    have f3 := cell_regrown p3
    have g0 := cell_regrown x0
    have g1 := cell_regrown x1
    have g2 := cell_regrown x2
    have g3 := cell_regrown x3
    have HGR4 : Hid (∀ d os, Below w.heap.size w (Sort.grow (redrawn w4 d) os)) := Lib.hid fun d os => HBT4.out.trans ((below_regrown w4 d os).mono HBT4.out.size)
    refine wp_region_quiet_below (by kernel_rfl) (by kernel_rfl) ?_
    repeat (go_big_quiet_step (first
      | (go_at_call 20; exact Calls.regrown_of (HBX2.out _ (HGR4.out _ _)))
      | (go_at_call 21; exact Calls.regrown_of (HAW.out _ (HGR4.out _ _)))
      | (go_at_call 27; refine Calls.regrown_of (HCK.out _ (HGR4.out _ _) _ _ _ _ ?_); with_reducible (first | exact HV.out.1 | exact HV2.out))))
    refine wpQuiet_nil ?_
    intro W5 hw'
    have HBW5 := Lib.hid (below_of_regrown hw')
    clear hw' d0 d1 d2 d3 e0 e1 e2 e3 e4 e5 e6 f0 f1 f2 f3 g0 g1 g2 g3 o0 o1 o2 o3 c0 c1 c2 c3 c4 c5 c6 p0 p1 p2 p3 x0 x1 x2 x3
    go_wp2_with fail
    go_ret
    exact ⟨rfl, HBT4.out.trans (HBW5.out.mono HBT4.out.size)⟩
  · have HXX := Lib.hid (HBX.out n1 n0 (fun p hp => by
      have h3 : p = 0 ∨ p = 1 ∨ p = 2 := by omega
      rcases h3 with rfl | rfl | rfl <;> first | rfl | omega))
    clear HBX
    go_wp2_with (first
      | (go_at_call 18; refine (HUS.out _ (by first | exact HFM.out.alloc _)).mono ?_; rintro e w9 ⟨rfl, rfl⟩)
      | (go_at_call 14; fail))
    obtain ⟨W2, hW2⟩ : ∃ W2, W1.alloc (.cells #[.int .i64 k, .int .i64 a, .int .i64 n1, .int .i64 n0] 23) = W2 := ⟨_, rfl⟩
    have hbw2 : Below W1.heap.size W1 W2 := by rw [← hW2]; exact (Below.refl _ _).alloc (Nat.le_refl _) _
    have hc2 : CellsAt W2 W1.heap.size [.int .i64 k, .int .i64 a, .int .i64 n1, .int .i64 n0] := by rw [← hW2]; exact CellsAt.new _ _ _
    have hlt2 : W1.heap.size < W2.heap.size := by rw [← hW2]; simp
    rw [hW2]
    have hb22 := HBW.out.trans (hbw2.mono HBW.out.size)
    have HBT : Hid (Below w.heap.size w W2) := Lib.hid (HB2.out.trans (hb22.mono HB2.out.size))
    refine (line_any k a x c ha hx hc W2 (HT.out.later HBT.out) (HL.out.later HBT.out)).mono ?_
    rw [HG.out]
    rintro e w3 ⟨rfl, hb3⟩
    have HBT3 : Hid (Below w.heap.size w w3) := Lib.hid (HBT.out.trans (hb3.mono HBT.out.size))
    have HX3 : Hid (CellsAt w3 W1.heap.size [.int .i64 k, .int .i64 a, .int .i64 n1, .int .i64 n0]) := Lib.hid (hc2.later hb3)
    have HC3 : Hid (Below w2.heap.size w2 w3) := Lib.hid (hb22.trans (hb3.mono hb22.size))
    clear hb3 hc2 hb22 hbw2 hW2
    have x0 := HX3.out 0 _ rfl
    have x1 := HX3.out 1 _ rfl
    have x2 := HX3.out 2 _ rfl
    have x3 := HX3.out 3 _ rfl
    go_wp2_with (go_at_call 14; fail)
    refine (line_any k a n1 n0 ha hn1 hn0 w3 (HT.out.later HBT3.out) (HL.out.later HBT3.out)).mono ?_
    rw [HG.out, HXX.out.2.2]
    rintro e w4 ⟨rfl, hb4⟩
    have HBT4 : Hid (Below w.heap.size w w4) := Lib.hid (HBT3.out.trans (hb4.mono HBT3.out.size))
    have HX4 : Hid (CellsAt w4 W1.heap.size [.int .i64 k, .int .i64 a, .int .i64 n1, .int .i64 n0]) := Lib.hid (HX3.out.later hb4)
    have HC4 : Hid (Below w2.heap.size w2 w4) := Lib.hid (HC3.out.trans (hb4.mono HC3.out.size))
    clear hb4 x0 x1 x2 x3
    have hsq : ((bs (lineI k a x c)).toList == (bs (lineI k a x c)).toList) = true := by simp
    generalize bs (lineI k a x c) = ls at hsq ⊢
    have x0 := HX4.out 0 _ rfl
    have x1 := HX4.out 1 _ rfl
    have x2 := HX4.out 2 _ rfl
    have x3 := HX4.out 3 _ rfl
    have o0 := (HC2.out.2.1.later HC4.out) 0 _ rfl
    have o1 := (HC2.out.2.1.later HC4.out) 1 _ rfl
    have o2 := (HC2.out.2.1.later HC4.out) 2 _ rfl
    have o3 := (HC2.out.2.1.later HC4.out) 3 _ rfl
    have c0 := (HC2.out.1.later HC4.out) 0 _ rfl
    have c1 := (HC2.out.1.later HC4.out) 1 _ rfl
    have c2 := (HC2.out.1.later HC4.out) 2 _ rfl
    have c3 := (HC2.out.1.later HC4.out) 3 _ rfl
    have c4 := (HC2.out.1.later HC4.out) 4 _ rfl
    have c5 := (HC2.out.1.later HC4.out) 5 _ rfl
    have c6 := (HC2.out.1.later HC4.out) 6 _ rfl
    have p0 := (HC2.out.2.2.2.later HC4.out) 0 _ rfl
    have p1 := (HC2.out.2.2.2.later HC4.out) 1 _ rfl
    have p2 := (HC2.out.2.2.2.later HC4.out) 2 _ rfl
    have p3 := (HC2.out.2.2.2.later HC4.out) 3 _ rfl
    have HBX2 : Hid (∀ W, Below w.heap.size w W → Calls Tryd.prog 20 #[.agg #[.int .i64 k, .int .i64 a, .int .i64 n1, .int .i64 n0]] W fun e w' => e = .returned (.agg #[.int .i64 K, .int .i64 A, .int .i64 X, .int .i64 C]) ∧ Below W.heap.size W w') := Lib.hid fun W hW => by
      have := bare_any k a n1 n0 W (HT.out.later hW)
      rw [HXX.out.1] at this; exact this
    have HAW : Hid (∀ W, Below w.heap.size w W → Calls Tryd.prog 21 #[] W fun e w' => e = .returned (.bool true) ∧ Below W.heap.size W w') := Lib.hid fun W hW => awake_any W (HT.out.later hW) (HL.out.later hW) (HM.out.later hW)
    have HV2 : Hid (checkE b wd m r ce lg st k a n1 n0 = v) := Lib.hid HXX.out.2.1
    go_wp2_with fail
    have d0 := cell_regrown o0
    have d1 := cell_regrown o1
    have d2 := cell_regrown o2
    have d3 := cell_regrown o3
    have e0 := cell_regrown c0
    have e1 := cell_regrown c1
    have e2 := cell_regrown c2
    have e3 := cell_regrown c3
    have e4 := cell_regrown c4
    have e5 := cell_regrown c5
    have e6 := cell_regrown c6
    have f0 := cell_regrown p0
    have f1 := cell_regrown p1
    have f2 := cell_regrown p2
    have f3 := cell_regrown p3
    have g0 := cell_regrown x0
    have g1 := cell_regrown x1
    have g2 := cell_regrown x2
    have g3 := cell_regrown x3
    have HGR4 : Hid (∀ d os, Below w.heap.size w (Sort.grow (redrawn w4 d) os)) := Lib.hid fun d os => HBT4.out.trans ((below_regrown w4 d os).mono HBT4.out.size)
    refine wp_region_quiet_below (by kernel_rfl) (by kernel_rfl) ?_
    repeat (go_big_quiet_step (first
      | (go_at_call 20; exact Calls.regrown_of (HBX2.out _ (HGR4.out _ _)))
      | (go_at_call 21; exact Calls.regrown_of (HAW.out _ (HGR4.out _ _)))
      | (go_at_call 27; refine Calls.regrown_of (HCK.out _ (HGR4.out _ _) _ _ _ _ ?_); with_reducible (first | exact HV.out.1 | exact HV2.out))))
    refine wpQuiet_nil ?_
    intro W5 hw'
    have HBW5 := Lib.hid (below_of_regrown hw')
    clear hw' d0 d1 d2 d3 e0 e1 e2 e3 e4 e5 e6 f0 f1 f2 f3 g0 g1 g2 g3 o0 o1 o2 o3 c0 c1 c2 c3 c4 c5 c6 p0 p1 p2 p3 x0 x1 x2 x3
    go_wp2_with fail
    go_ret
    exact ⟨rfl, HBT4.out.trans (HBW5.out.mono HBT4.out.size)⟩
  · have HXX := Lib.hid (HBX.out x n0 (fun p hp => by
      have h3 : p = 0 ∨ p = 1 ∨ p = 2 := by omega
      rcases h3 with rfl | rfl | rfl <;> first | rfl | omega))
    clear HBX
    go_wp2_with (first
      | (go_at_call 18; refine (HUS.out _ (by first | exact HFM.out.alloc _)).mono ?_; rintro e w9 ⟨rfl, rfl⟩)
      | (go_at_call 14; fail))
    obtain ⟨W2, hW2⟩ : ∃ W2, W1.alloc (.cells #[.int .i64 k, .int .i64 a, .int .i64 x, .int .i64 n0] 23) = W2 := ⟨_, rfl⟩
    have hbw2 : Below W1.heap.size W1 W2 := by rw [← hW2]; exact (Below.refl _ _).alloc (Nat.le_refl _) _
    have hc2 : CellsAt W2 W1.heap.size [.int .i64 k, .int .i64 a, .int .i64 x, .int .i64 n0] := by rw [← hW2]; exact CellsAt.new _ _ _
    have hlt2 : W1.heap.size < W2.heap.size := by rw [← hW2]; simp
    rw [hW2]
    have hb22 := HBW.out.trans (hbw2.mono HBW.out.size)
    have HBT : Hid (Below w.heap.size w W2) := Lib.hid (HB2.out.trans (hb22.mono HB2.out.size))
    refine (line_any k a x c ha hx hc W2 (HT.out.later HBT.out) (HL.out.later HBT.out)).mono ?_
    rw [HG.out]
    rintro e w3 ⟨rfl, hb3⟩
    have HBT3 : Hid (Below w.heap.size w w3) := Lib.hid (HBT.out.trans (hb3.mono HBT.out.size))
    have HX3 : Hid (CellsAt w3 W1.heap.size [.int .i64 k, .int .i64 a, .int .i64 x, .int .i64 n0]) := Lib.hid (hc2.later hb3)
    have HC3 : Hid (Below w2.heap.size w2 w3) := Lib.hid (hb22.trans (hb3.mono hb22.size))
    clear hb3 hc2 hb22 hbw2 hW2
    have x0 := HX3.out 0 _ rfl
    have x1 := HX3.out 1 _ rfl
    have x2 := HX3.out 2 _ rfl
    have x3 := HX3.out 3 _ rfl
    go_wp2_with (go_at_call 14; fail)
    refine (line_any k a x n0 ha hx hn0 w3 (HT.out.later HBT3.out) (HL.out.later HBT3.out)).mono ?_
    rw [HG.out, HXX.out.2.2]
    rintro e w4 ⟨rfl, hb4⟩
    have HBT4 : Hid (Below w.heap.size w w4) := Lib.hid (HBT3.out.trans (hb4.mono HBT3.out.size))
    have HX4 : Hid (CellsAt w4 W1.heap.size [.int .i64 k, .int .i64 a, .int .i64 x, .int .i64 n0]) := Lib.hid (HX3.out.later hb4)
    have HC4 : Hid (Below w2.heap.size w2 w4) := Lib.hid (HC3.out.trans (hb4.mono HC3.out.size))
    clear hb4 x0 x1 x2 x3
    have hsq : ((bs (lineI k a x c)).toList == (bs (lineI k a x c)).toList) = true := by simp
    generalize bs (lineI k a x c) = ls at hsq ⊢
    have x0 := HX4.out 0 _ rfl
    have x1 := HX4.out 1 _ rfl
    have x2 := HX4.out 2 _ rfl
    have x3 := HX4.out 3 _ rfl
    have o0 := (HC2.out.2.1.later HC4.out) 0 _ rfl
    have o1 := (HC2.out.2.1.later HC4.out) 1 _ rfl
    have o2 := (HC2.out.2.1.later HC4.out) 2 _ rfl
    have o3 := (HC2.out.2.1.later HC4.out) 3 _ rfl
    have c0 := (HC2.out.1.later HC4.out) 0 _ rfl
    have c1 := (HC2.out.1.later HC4.out) 1 _ rfl
    have c2 := (HC2.out.1.later HC4.out) 2 _ rfl
    have c3 := (HC2.out.1.later HC4.out) 3 _ rfl
    have c4 := (HC2.out.1.later HC4.out) 4 _ rfl
    have c5 := (HC2.out.1.later HC4.out) 5 _ rfl
    have c6 := (HC2.out.1.later HC4.out) 6 _ rfl
    have p0 := (HC2.out.2.2.2.later HC4.out) 0 _ rfl
    have p1 := (HC2.out.2.2.2.later HC4.out) 1 _ rfl
    have p2 := (HC2.out.2.2.2.later HC4.out) 2 _ rfl
    have p3 := (HC2.out.2.2.2.later HC4.out) 3 _ rfl
    have HBX2 : Hid (∀ W, Below w.heap.size w W → Calls Tryd.prog 20 #[.agg #[.int .i64 k, .int .i64 a, .int .i64 x, .int .i64 n0]] W fun e w' => e = .returned (.agg #[.int .i64 K, .int .i64 A, .int .i64 X, .int .i64 C]) ∧ Below W.heap.size W w') := Lib.hid fun W hW => by
      have := bare_any k a x n0 W (HT.out.later hW)
      rw [HXX.out.1] at this; exact this
    have HAW : Hid (∀ W, Below w.heap.size w W → Calls Tryd.prog 21 #[] W fun e w' => e = .returned (.bool true) ∧ Below W.heap.size W w') := Lib.hid fun W hW => awake_any W (HT.out.later hW) (HL.out.later hW) (HM.out.later hW)
    have HV2 : Hid (checkE b wd m r ce lg st k a x n0 = v) := Lib.hid HXX.out.2.1
    go_wp2_with fail
    have d0 := cell_regrown o0
    have d1 := cell_regrown o1
    have d2 := cell_regrown o2
    have d3 := cell_regrown o3
    have e0 := cell_regrown c0
    have e1 := cell_regrown c1
    have e2 := cell_regrown c2
    have e3 := cell_regrown c3
    have e4 := cell_regrown c4
    have e5 := cell_regrown c5
    have e6 := cell_regrown c6
    have f0 := cell_regrown p0
    have f1 := cell_regrown p1
    have f2 := cell_regrown p2
    have f3 := cell_regrown p3
    have g0 := cell_regrown x0
    have g1 := cell_regrown x1
    have g2 := cell_regrown x2
    have g3 := cell_regrown x3
    have HGR4 : Hid (∀ d os, Below w.heap.size w (Sort.grow (redrawn w4 d) os)) := Lib.hid fun d os => HBT4.out.trans ((below_regrown w4 d os).mono HBT4.out.size)
    refine wp_region_quiet_below (by kernel_rfl) (by kernel_rfl) ?_
    repeat (go_big_quiet_step (first
      | (go_at_call 20; exact Calls.regrown_of (HBX2.out _ (HGR4.out _ _)))
      | (go_at_call 21; exact Calls.regrown_of (HAW.out _ (HGR4.out _ _)))
      | (go_at_call 27; refine Calls.regrown_of (HCK.out _ (HGR4.out _ _) _ _ _ _ ?_); with_reducible (first | exact HV.out.1 | exact HV2.out))))
    refine wpQuiet_nil ?_
    intro W5 hw'
    have HBW5 := Lib.hid (below_of_regrown hw')
    clear hw' d0 d1 d2 d3 e0 e1 e2 e3 e4 e5 e6 f0 f1 f2 f3 g0 g1 g2 g3 o0 o1 o2 o3 c0 c1 c2 c3 c4 c5 c6 p0 p1 p2 p3 x0 x1 x2 x3
    go_wp2_with fail
    go_ret
    exact ⟨rfl, HBT4.out.trans (HBW5.out.mono HBT4.out.size)⟩
  · have HXX := Lib.hid (HBX.out x c (fun p hp => by
      have h3 : p = 0 ∨ p = 1 ∨ p = 2 := by omega
      rcases h3 with rfl | rfl | rfl <;> first | rfl | omega))
    clear HBX
    go_wp2_with (first
      | (go_at_call 18; refine (HUS.out _ (by first | exact HFM.out.alloc _)).mono ?_; rintro e w9 ⟨rfl, rfl⟩)
      | (go_at_call 14; fail))
    obtain ⟨W2, hW2⟩ : ∃ W2, W1.alloc (.cells #[.int .i64 k, .int .i64 a, .int .i64 x, .int .i64 c] 23) = W2 := ⟨_, rfl⟩
    have hbw2 : Below W1.heap.size W1 W2 := by rw [← hW2]; exact (Below.refl _ _).alloc (Nat.le_refl _) _
    have hc2 : CellsAt W2 W1.heap.size [.int .i64 k, .int .i64 a, .int .i64 x, .int .i64 c] := by rw [← hW2]; exact CellsAt.new _ _ _
    have hlt2 : W1.heap.size < W2.heap.size := by rw [← hW2]; simp
    rw [hW2]
    have hb22 := HBW.out.trans (hbw2.mono HBW.out.size)
    have HBT : Hid (Below w.heap.size w W2) := Lib.hid (HB2.out.trans (hb22.mono HB2.out.size))
    refine (line_any k a x c ha hx hc W2 (HT.out.later HBT.out) (HL.out.later HBT.out)).mono ?_
    rw [HG.out]
    rintro e w3 ⟨rfl, hb3⟩
    have HBT3 : Hid (Below w.heap.size w w3) := Lib.hid (HBT.out.trans (hb3.mono HBT.out.size))
    have HX3 : Hid (CellsAt w3 W1.heap.size [.int .i64 k, .int .i64 a, .int .i64 x, .int .i64 c]) := Lib.hid (hc2.later hb3)
    have HC3 : Hid (Below w2.heap.size w2 w3) := Lib.hid (hb22.trans (hb3.mono hb22.size))
    clear hb3 hc2 hb22 hbw2 hW2
    have x0 := HX3.out 0 _ rfl
    have x1 := HX3.out 1 _ rfl
    have x2 := HX3.out 2 _ rfl
    have x3 := HX3.out 3 _ rfl
    go_wp2_with (go_at_call 14; fail)
    refine (line_any k a x c ha hx hc w3 (HT.out.later HBT3.out) (HL.out.later HBT3.out)).mono ?_
    rw [HG.out]
    rintro e w4 ⟨rfl, hb4⟩
    have HBT4 : Hid (Below w.heap.size w w4) := Lib.hid (HBT3.out.trans (hb4.mono HBT3.out.size))
    have HX4 : Hid (CellsAt w4 W1.heap.size [.int .i64 k, .int .i64 a, .int .i64 x, .int .i64 c]) := Lib.hid (HX3.out.later hb4)
    have HC4 : Hid (Below w2.heap.size w2 w4) := Lib.hid (HC3.out.trans (hb4.mono HC3.out.size))
    clear hb4 x0 x1 x2 x3
    have hsq : ((bs (lineI k a x c)).toList == (bs (lineI k a x c)).toList) = true := by simp
    generalize bs (lineI k a x c) = ls at hsq ⊢
    have x0 := HX4.out 0 _ rfl
    have x1 := HX4.out 1 _ rfl
    have x2 := HX4.out 2 _ rfl
    have x3 := HX4.out 3 _ rfl
    have o0 := (HC2.out.2.1.later HC4.out) 0 _ rfl
    have o1 := (HC2.out.2.1.later HC4.out) 1 _ rfl
    have o2 := (HC2.out.2.1.later HC4.out) 2 _ rfl
    have o3 := (HC2.out.2.1.later HC4.out) 3 _ rfl
    have c0 := (HC2.out.1.later HC4.out) 0 _ rfl
    have c1 := (HC2.out.1.later HC4.out) 1 _ rfl
    have c2 := (HC2.out.1.later HC4.out) 2 _ rfl
    have c3 := (HC2.out.1.later HC4.out) 3 _ rfl
    have c4 := (HC2.out.1.later HC4.out) 4 _ rfl
    have c5 := (HC2.out.1.later HC4.out) 5 _ rfl
    have c6 := (HC2.out.1.later HC4.out) 6 _ rfl
    have p0 := (HC2.out.2.2.2.later HC4.out) 0 _ rfl
    have p1 := (HC2.out.2.2.2.later HC4.out) 1 _ rfl
    have p2 := (HC2.out.2.2.2.later HC4.out) 2 _ rfl
    have p3 := (HC2.out.2.2.2.later HC4.out) 3 _ rfl
    have HBX2 : Hid (∀ W, Below w.heap.size w W → Calls Tryd.prog 20 #[.agg #[.int .i64 k, .int .i64 a, .int .i64 x, .int .i64 c]] W fun e w' => e = .returned (.agg #[.int .i64 K, .int .i64 A, .int .i64 X, .int .i64 C]) ∧ Below W.heap.size W w') := Lib.hid fun W hW => by
      have := bare_any k a x c W (HT.out.later hW)
      rw [HXX.out.1] at this; exact this
    have HAW : Hid (∀ W, Below w.heap.size w W → Calls Tryd.prog 21 #[] W fun e w' => e = .returned (.bool true) ∧ Below W.heap.size W w') := Lib.hid fun W hW => awake_any W (HT.out.later hW) (HL.out.later hW) (HM.out.later hW)
    have HV2 : Hid (checkE b wd m r ce lg st k a x c = v) := Lib.hid HXX.out.2.1
    go_wp2_with fail
    have d0 := cell_regrown o0
    have d1 := cell_regrown o1
    have d2 := cell_regrown o2
    have d3 := cell_regrown o3
    have e0 := cell_regrown c0
    have e1 := cell_regrown c1
    have e2 := cell_regrown c2
    have e3 := cell_regrown c3
    have e4 := cell_regrown c4
    have e5 := cell_regrown c5
    have e6 := cell_regrown c6
    have f0 := cell_regrown p0
    have f1 := cell_regrown p1
    have f2 := cell_regrown p2
    have f3 := cell_regrown p3
    have g0 := cell_regrown x0
    have g1 := cell_regrown x1
    have g2 := cell_regrown x2
    have g3 := cell_regrown x3
    have HGR4 : Hid (∀ d os, Below w.heap.size w (Sort.grow (redrawn w4 d) os)) := Lib.hid fun d os => HBT4.out.trans ((below_regrown w4 d os).mono HBT4.out.size)
    refine wp_region_quiet_below (by kernel_rfl) (by kernel_rfl) ?_
    repeat (go_big_quiet_step (first
      | (go_at_call 20; exact Calls.regrown_of (HBX2.out _ (HGR4.out _ _)))
      | (go_at_call 21; exact Calls.regrown_of (HAW.out _ (HGR4.out _ _)))
      | (go_at_call 27; refine Calls.regrown_of (HCK.out _ (HGR4.out _ _) _ _ _ _ ?_); with_reducible (first | exact HV.out.1 | exact HV2.out))))
    refine wpQuiet_nil ?_
    intro W5 hw'
    have HBW5 := Lib.hid (below_of_regrown hw')
    clear hw' d0 d1 d2 d3 e0 e1 e2 e3 e4 e5 e6 f0 f1 f2 f3 g0 g1 g2 g3 o0 o1 o2 o3 c0 c1 c2 c3 c4 c5 c6 p0 p1 p2 p3 x0 x1 x2 x3
    go_wp2_with fail
    go_ret
    exact ⟨rfl, HBT4.out.trans (HBW5.out.mono HBT4.out.size)⟩
end Go.Proofs.YtenjllknianieaaDoor.Opr
