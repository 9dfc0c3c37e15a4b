/-
  OpChecks answers true.
-/
import Derived.Test.YtenjllknianieaaDoorOpQ
namespace Go.Proofs.YtenjllknianieaaDoor.Opr
open Go.RowKit

set_option maxRecDepth 200000 in
set_option maxHeartbeats 8000000 in
theorem checks_walk (b wd m r ce lg st k a x c : Int) (pa : Option Addr) (ca : Nat) (l : List (Int × Int × Int × Int)) (w : World) (ht : FormTab w) (hl : LibTab w) (hm : LimTab w) (ha : OpsAt w pa l) (hla : l.length ≤ maxLen) :
    Calls Tryd.prog 5 #[.agg #[.int .i64 b, .int .i64 wd, .int .i64 m, .int .i64 r, .int .i64 ce, .int .i64 lg, .int .i64 st], .agg #[.int .i64 k, .int .i64 a, .int .i64 x, .int .i64 c], .slice pa l.length ca] w
      fun e w' => e = .returned (.bool true) ∧ Below w.heap.size w w' := by
  unfold maxLen at hla
  have HT := Lib.hid ht
  have HL := Lib.hid hl
  have HM := Lib.hid hm
  have HO := Lib.hid ha
  clear ht hl hm ha
  obtain ⟨w0, hw0⟩ : ∃ w0, (w.alloc (.cells #[.int .i64 b, .int .i64 wd, .int .i64 m, .int .i64 r, .int .i64 ce, .int .i64 lg, .int .i64 st] 39)).alloc (.cells #[.int .i64 k, .int .i64 a, .int .i64 x, .int .i64 c] 23) = w0 := ⟨_, rfl⟩
  have HA : Hid (Below w.heap.size w w0) := Lib.hid (by rw [← hw0]; exact ((Below.refl _ _).alloc (Nat.le_refl _) _).alloc (by simp) _)
  have HC0 : Hid (CellsAt w0 w.heap.size [.int .i64 b, .int .i64 wd, .int .i64 m, .int .i64 r, .int .i64 ce, .int .i64 lg, .int .i64 st] ∧ CellsAt w0 (w.heap.size + 1) [.int .i64 k, .int .i64 a, .int .i64 x, .int .i64 c]) := Lib.hid (by
    rw [← hw0]
    exact ⟨(CellsAt.new _ _ _).later ((Below.refl _ _).alloc (Nat.le_refl _) _), (CellsAt.new _ _ _).at (by simp)⟩)
  have HAW : Hid (∀ W, Below w.heap.size w W → Calls Tryd.prog 21 #[] W fun e w' => e = .returned (.bool true) ∧ Below W.heap.size W w') := Lib.hid fun W hW => awake_any W (HT.out.later hW) (HL.out.later hW) (HM.out.later hW)
  by_cases hbig : 50 < l.length
  · have h1 : (50 : Int) < (l.length : Int) := by omega
    go_enter Tryd.func5, Tryd.ntmps5
    go_wp2_with (go_at_call 21; refine (HAW.out _ HA.out).mono ?_; rintro e w1 ⟨rfl, hb1⟩; have HB1 := Lib.hid hb1; clear hb1)
    go_ret
    exact ⟨rfl, HA.out.trans (HB1.out.mono HA.out.size)⟩
  have h1 : (l.length : Int) ≤ 50 := by omega
  have h50 : l.length ≤ 50 := by omega
  have HRI := Lib.hid (right1_any b wd m r ce lg st pa ca l w0 h50 (HO.out.later HA.out) (HT.out.later HA.out) (HM.out.later HA.out))
  obtain ⟨F, hF⟩ : ∃ F : Nat → Int, (fun i => checkE b wd m r ce lg st (l.getD i (0, 0, 0, 0)).1 (l.getD i (0, 0, 0, 0)).2.1 (l.getD i (0, 0, 0, 0)).2.2.1 (l.getD i (0, 0, 0, 0)).2.2.2) = F := ⟨_, rfl⟩
  rw [hF] at HRI
  have HF : Hid (∀ i, checkE b wd m r ce lg st (l.getD i (0, 0, 0, 0)).1 (l.getD i (0, 0, 0, 0)).2.1 (l.getD i (0, 0, 0, 0)).2.2.1 (l.getD i (0, 0, 0, 0)).2.2.2 = F i) := Lib.hid fun i => congrFun hF i
  obtain ⟨v, hv⟩ : ∃ v, checkE b wd m r ce lg st k a x c = v := ⟨_, rfl⟩
  have HCK : Hid (∀ W, Below w.heap.size w W → Calls Tryd.prog 27 #[.agg #[.int .i64 b, .int .i64 wd, .int .i64 m, .int .i64 r, .int .i64 ce, .int .i64 lg, .int .i64 st], .agg #[.int .i64 k, .int .i64 a, .int .i64 x, .int .i64 c]] W fun e w' => e = .returned (.int .i64 v) ∧ Below W.heap.size W w') := Lib.hid fun W hW => by
    have := check_any b wd m r ce lg st k a x c W (HT.out.later hW) (HM.out.later hW)
    rw [hv] at this; exact this
  have HRC : Hid (∀ W, Calls Tryd.prog 26 #[.agg #[.int .i64 b, .int .i64 wd, .int .i64 m, .int .i64 r, .int .i64 ce, .int .i64 lg, .int .i64 st], .agg #[.int .i64 k, .int .i64 a, .int .i64 x, .int .i64 c]] W fun e w' => e = .returned (.int .i64 v) ∧ Below W.heap.size W w') := Lib.hid fun W => by
    have := refcheck_any b wd m r ce lg st k a x c W
    rw [hv] at this; exact this
  have HRF : Hid (∀ i W, Calls Tryd.prog 26 #[.agg #[.int .i64 b, .int .i64 wd, .int .i64 m, .int .i64 r, .int .i64 ce, .int .i64 lg, .int .i64 st], .agg #[.int .i64 (l.getD i (0, 0, 0, 0)).1, .int .i64 (l.getD i (0, 0, 0, 0)).2.1, .int .i64 (l.getD i (0, 0, 0, 0)).2.2.1, .int .i64 (l.getD i (0, 0, 0, 0)).2.2.2]] W
      fun e w' => e = .returned (.int .i64 (F i)) ∧ Below W.heap.size W w') := Lib.hid fun i W => by
    have := refcheck_any b wd m r ce lg st (l.getD i (0, 0, 0, 0)).1 (l.getD i (0, 0, 0, 0)).2.1 (l.getD i (0, 0, 0, 0)).2.2.1 (l.getD i (0, 0, 0, 0)).2.2.2 W
    rw [HF.out i] at this; exact this
  clear hF hv
  have c0 := HC0.out.1 0 _ rfl
  have c1 := HC0.out.1 1 _ rfl
  have c2 := HC0.out.1 2 _ rfl
  have c3 := HC0.out.1 3 _ rfl
  have c4 := HC0.out.1 4 _ rfl
  have c5 := HC0.out.1 5 _ rfl
  have c6 := HC0.out.1 6 _ rfl
  go_enter Tryd.func5, Tryd.ntmps5
  go_wp2_with (go_at_call 25; fail)
  refine HRI.out.mono ?_
  rintro e w1 ⟨rfl, hb1⟩
  have HB1 : Hid (Below w.heap.size w w1) := Lib.hid (HA.out.trans (hb1.mono HA.out.size))
  have HC1 : Hid (CellsAt w1 w.heap.size [.int .i64 b, .int .i64 wd, .int .i64 m, .int .i64 r, .int .i64 ce, .int .i64 lg, .int .i64 st] ∧ CellsAt w1 (w.heap.size + 1) [.int .i64 k, .int .i64 a, .int .i64 x, .int .i64 c]) := Lib.hid ⟨HC0.out.1.later hb1, HC0.out.2.later hb1⟩
  clear hb1 c0 c1 c2 c3 c4 c5 c6 hw0
  obtain ⟨res, hres⟩ : ∃ q, rightR F l.length 0 = q := ⟨_, rfl⟩
  rw [hres]
  have HRES := Lib.hid hres
  clear hres
  obtain ⟨r1, r2⟩ := res
  go_wp2_with fail
  go_loopw [9, 10, 11] (fun av co i wr => ∃ q : Nat, q ≤ l.length ∧ i = .int .i64 ((q : Int) - 1) ∧ av = .int .i64 (rightR F (l.length - q) q).1 ∧ co = .int .i64 (rightR F (l.length - q) q).2 ∧ Below w1.heap.size w1 wr) (fun _ _ i _ => (intOf i + 1).toNat)
  case atStart =>
    refine ⟨l.length, by omega, rfl, ?_, ?_, Below.refl _ _⟩
    · rw [Nat.sub_self]; rfl
    · rw [Nat.sub_self]; rfl
  case round =>
    obtain ⟨q, hq, rfl, rfl, rfl, hb⟩ := hrel
    have HB' := Lib.hid (HB1.out.trans (hb.mono HB1.out.size))
    have HC2 : Hid (CellsAt wr w.heap.size [.int .i64 b, .int .i64 wd, .int .i64 m, .int .i64 r, .int .i64 ce, .int .i64 lg, .int .i64 st] ∧ CellsAt wr (w.heap.size + 1) [.int .i64 k, .int .i64 a, .int .i64 x, .int .i64 c]) := Lib.hid ⟨HC1.out.1.later hb, HC1.out.2.later hb⟩
    have HB := Lib.hid hb
    clear hb
    have c0 := HC2.out.1 0 _ rfl
    have c1 := HC2.out.1 1 _ rfl
    have c2 := HC2.out.1 2 _ rfl
    have c3 := HC2.out.1 3 _ rfl
    have c4 := HC2.out.1 4 _ rfl
    have c5 := HC2.out.1 5 _ rfl
    have c6 := HC2.out.1 6 _ rfl
    have e0 := cell_regrown c0
    have e1 := cell_regrown c1
    have e2 := cell_regrown c2
    have e3 := cell_regrown c3
    have e4 := cell_regrown c4
    have e5 := cell_regrown c5
    have e6 := cell_regrown c6
    rcases q with _ | p
    · have hr : rightR F (l.length - 0) 0 = (r1, r2) := HRES.out
      rw [hr]
      clear hr
      have hm1 : ((0 : Nat) : Int) - 1 = -1 := rfl
      rw [hm1]
      go_wp2_with fail
      have o0 := HC2.out.2 0 _ rfl
      have o1 := HC2.out.2 1 _ rfl
      have o2 := HC2.out.2 2 _ rfl
      have o3 := HC2.out.2 3 _ rfl
      have d0 := cell_regrown o0
      have d1 := cell_regrown o1
      have d2 := cell_regrown o2
      have d3 := cell_regrown o3
      have HGR : Hid (∀ d os, Below w.heap.size w (Sort.grow (redrawn wr d) os)) := Lib.hid fun d os => HB'.out.trans ((below_regrown wr d os).mono HB'.out.size)
      refine wp_region_quiet_below (by kernel_rfl) (by kernel_rfl) ?_
      repeat (go_big_quiet_step (first
        | (go_at_call 21; exact Calls.regrown_of (HAW.out _ (HGR.out _ _)))
        | (go_at_call 26; exact Calls.regrown_of (HRC.out _))
        | (go_at_call 27; exact Calls.regrown_of (HCK.out _ (HGR.out _ _)))))
      refine wpQuiet_nil ?_
      intro W5 hw'
      have HBW5 := Lib.hid (below_of_regrown hw')
      clear hw' d0 d1 d2 d3 e0 e1 e2 e3 e4 e5 e6 o0 o1 o2 o3 c0 c1 c2 c3 c4 c5 c6
      go_wp2_with fail
      go_ret
      exact ⟨rfl, HB'.out.trans (HBW5.out.mono HB'.out.size)⟩
    · have hlt : p < l.length := by omega
      have pl : (p : Int) < (l.length : Int) := by omega
      have p0 : (0 : Int) ≤ (p : Int) := by omega
      have hpi : ((p + 1 : Nat) : Int) - 1 = (p : Int) := by omega
      rw [hpi]
      obtain ⟨g, off, rfl, i0, i1, i2, i3⟩ := (HO.out.later HB'.out) p hlt
      have j0 := cell_regrown i0
      have j1 := cell_regrown i1
      have j2 := cell_regrown i2
      have j3 := cell_regrown i3
      have hrf := HRF.out p
      generalize l.getD p (0, 0, 0, 0) = d at i0 i1 i2 i3 j0 j1 j2 j3 hrf
      obtain ⟨dk, da, dx, dc⟩ := d
      simp only at i0 i1 i2 i3 j0 j1 j2 j3 hrf
      have HRP := Lib.hid hrf
      clear hrf
      have hstep : rightR F (l.length - p) p = if F p = 0 then rightR F (l.length - (p + 1)) (p + 1) else ((p : Int), F p) := by
        obtain ⟨u, hu⟩ : ∃ u, l.length - p = u + 1 := ⟨l.length - p - 1, by omega⟩
        rw [hu, show l.length - (p + 1) = u by omega]
        rfl
      generalize rightR F (l.length - (p + 1)) (p + 1) = nx at hstep ⊢
      obtain ⟨n1, n2⟩ := nx
      generalize F p = fv at hstep HRP
      have HST := Lib.hid hstep
      clear hstep
      go_wp2_with fail
      refine wp_region_quiet_below (by kernel_rfl) (by kernel_rfl) ?_
      repeat (go_big_quiet_step (first
        | (go_at_call 26; exact Calls.regrown_of (HRP.out _))))
      refine wpQuiet_nil ?_
      intro W5 hw'
      have HBW5 := Lib.hid (below_of_regrown hw')
      clear hw' e0 e1 e2 e3 e4 e5 e6 c0 c1 c2 c3 c4 c5 c6 i0 i1 i2 i3 j0 j1 j2 j3
      by_cases hv : fv = 0
      · have hn : (fv != 0) = false := by rw [hv]; rfl
        have HV := Lib.hid hv
        clear hv
        go_wp2_with fail
        go_roundw
        case rel =>
          refine ⟨p, by omega, by go_num, ?_, ?_, HB.out.trans (HBW5.out.mono HB.out.size)⟩
          · rw [HST.out, if_pos HV.out]
          · rw [HST.out, if_pos HV.out]
        case measure => simp [intOf]
      · have hn : (fv != 0) = true := by rw [bne_iff_ne]; exact hv
        have HV := Lib.hid hv
        clear hv
        go_wp2_with fail
        go_roundw
        case rel =>
          refine ⟨p, by omega, by go_num, ?_, ?_, HB.out.trans (HBW5.out.mono HB.out.size)⟩
          · rw [HST.out, if_neg HV.out]
          · rw [HST.out, if_neg HV.out]
        case measure => simp [intOf]
end Go.Proofs.YtenjllknianieaaDoor.Opr
