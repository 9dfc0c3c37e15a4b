/-
  The law TraceMarks answers true.
-/
import Derived.Test.YtpcgmkchflmcmaaGreatDoorTrM2
namespace Go.Proofs.YtpcgmkchflmcmaaGreatDoor.Tr
open Go.RowKit Go.Shelf
open Class (below_drewN)
open Blk (Cfg allP kAt little little_any little_right)
open Bits (SetIs TzTab)
open Hp (Ids St Wf Is To Mine bn bnI bnI_nat objL not_mine pkA_len objects_any NewRow coV coE color_any')
open Stk (new_bad)
open Sw (ThingsP thAt)
open Go.Proofs.YtpcgmkchflmcmaaGreatDoor.Row (Chg Rd Rd0 rowB rowB_none cell_of_block frozen_of_block other same cellsZ cellsZ_length cellsZ_at owns_block owns_chg owns_lt owns_base owns_cell owns_slice same_any)
open Go.Proofs.YtpcgmkchflmcmaaGreatDoor.Addr (Tabs)

theorem owns_any {w : World} {base cap n : Nat} {e : TypeId} {p : Option Addr} {vs : List Value} (h : w.ownsRow base e 1 (.slice p n cap) n vs) : ∀ j v, vs[j]? = some v → ∃ g off, p = some ⟨g, off, none⟩ ∧ w.cell? ⟨g, off + j, none⟩ = some v := fun j v hv => by
  obtain ⟨h1, ⟨h2, h3⟩ | ⟨g, c, cur, e1, r⟩⟩ := id h
  · have := (List.getElem?_eq_some_iff.1 hv).1
    omega
  · cases e1
    exact ⟨g, 0, rfl, by rw [Nat.zero_add]; exact owns_cell h j v hv⟩
/-- Mark, by no color. -/
theorem mark_noc (H : Nat) (c z : Int) (pr : Option Addr) (lr cr : Nat) (hc : (c == 0 || c == 1) = false) (w : World) :
    Calls Tryz.prog 22 #[.pointer (some ⟨H, 0, none⟩), .int .i64 c, .int .i64 z, .slice pr lr cr] w fun e w' => e = .returned (.tuple #[.int .i64 0, .int .i64 0, .int .i64 1]) ∧ w = w' := by
  have HC := Lib.hid (fun W => isC_any c W)
  rw [hc] at HC
  go_enter Tryz.func22, Tryz.ntmps22
  go_wp2_with (go_at_call 40; refine (HC.out _).mono ?_; rintro e w0 ⟨rfl, rfl⟩)
  go_ret3
  exact ⟨rfl, rfl⟩
/-- Mark, with no room that there may be. -/
theorem mark_nor (H : Nat) (c z : Int) (pr : Option Addr) (lr cr : Nat) (hc : (c == 0 || c == 1) = true) (hz : z < 1 ∨ 4096 < z) (w : World) :
    Calls Tryz.prog 22 #[.pointer (some ⟨H, 0, none⟩), .int .i64 c, .int .i64 z, .slice pr lr cr] w fun e w' => e = .returned (.tuple #[.int .i64 0, .int .i64 0, .int .i64 4]) ∧ w = w' := by
  have HC := Lib.hid (fun W => isC_any c W)
  have HN := Lib.hid (fun W => new_bad z W hz)
  rw [hc] at HC
  clear hz
  go_enter Tryz.func22, Tryz.ntmps22
  go_wp2_with (first
    | (go_at_call 40; refine (HC.out _).mono ?_; rintro e w0 ⟨rfl, rfl⟩)
    | (go_at_call 41; refine (HN.out _).mono ?_; rintro e w0 ⟨rfl, rfl⟩))
  go_ret3
  exact ⟨rfl, rfl⟩

set_option maxRecDepth 100000 in
set_option maxHeartbeats 4000000 in
theorem marks_walk (c : Cfg) (pa : Option Addr) (ca : Nat) (l : List (Nat × Nat × Bool)) (pf : Option Addr) (cf : Nat) (fl : List Nat) (pr : Option Addr) (cr : Nat) (R : List Int) (x0 x1 : Int) (w : World) (ht : Tabs w) (hz : TzTab w) (hvb : vB ≤ w.heap.size)
    (hl : ThingsP w.heap.size w pa l) (hla : l.length ≤ maxLen) (hf : WordsP w.heap.size w pf fl) (hfl : fl.length ≤ maxLen) (hr : RootsP w.heap.size w pr R) (hrl : R.length ≤ maxLen) :
    Calls Tryz.prog 4 #[.agg #[.int .i64 c.b, .int .i64 c.wd, .int .i64 c.m, .int .i64 c.r, .int .i64 c.ce, .int .i64 c.lg, .int .i64 c.st, .slice pa l.length ca, .slice pf fl.length cf], .slice pr R.length cr, .agg #[.int .i64 x0, .int .i64 x1]] w fun e w' => e = .returned (.bool true) ∧ Below w.heap.size w w' := by
  obtain ⟨wb, hwb⟩ : ∃ wb, wb = (w.alloc (.cells #[.int .i64 c.b, .int .i64 c.wd, .int .i64 c.m, .int .i64 c.r, .int .i64 c.ce, .int .i64 c.lg, .int .i64 c.st, .slice pa l.length ca, .slice pf fl.length cf] 27)).alloc (.cells #[.int .i64 x0, .int .i64 x1] 29) := ⟨_, rfl⟩
  have hb0 : Below w.heap.size w wb := by rw [hwb]; exact ((Below.refl _ _).alloc (Nat.le_refl _) _).alloc (by simp) _
  have hsz : wb.heap.size = w.heap.size + 2 := by rw [hwb]; simp
  have hgb : Gb w wb c pa ca l.length pf cf fl.length := by rw [hwb]; exact (Gb.start w c pa ca l.length pf cf fl.length).later ((Below.refl _ _).alloc (Nat.le_refl _) _)
  have HT := Lib.hid (ht.later hb0)
  have HZ := Lib.hid (hz.below hb0 (by unfold vB at hvb; omega))
  have HTH := Lib.hid (hl.below hb0)
  have HF := Lib.hid (hf.below hb0)
  have HR := Lib.hid ((hr.below hb0).mono (show w.heap.size ≤ wb.heap.size by omega))
  have HBX := Lib.hid (show ∀ W, Below wb.heap.size wb W → W.cell? ⟨w.heap.size + 1, 0, none⟩ = some (.int .i64 x0) ∧ W.cell? ⟨w.heap.size + 1, 1, none⟩ = some (.int .i64 x1) from fun W hb => by
    have h1 : wb.cell? ⟨w.heap.size + 1, 0, none⟩ = some (.int .i64 x0) := by rw [hwb, World.cell?_alloc_at _ _ _ _ (by simp)]; rfl
    have h2 : wb.cell? ⟨w.heap.size + 1, 1, none⟩ = some (.int .i64 x1) := by rw [hwb, World.cell?_alloc_at _ _ _ _ (by simp)]; rfl
    exact ⟨(hb.cell (p := ⟨w.heap.size + 1, 0, none⟩) (by show w.heap.size + 1 < _; omega)).trans h1, (hb.cell (p := ⟨w.heap.size + 1, 1, none⟩) (by show w.heap.size + 1 < _; omega)).trans h2⟩)
  have HGB := Lib.hid hgb
  have HB0 := Lib.hid hb0
  have hvb' : vB ≤ wb.heap.size := by omega
  obtain ⟨nc, hnc, hnc3⟩ := Sw.little_ce' c
  obtain ⟨n, hn, hn2⟩ := Sw.little_n' c
  have HNC := Lib.hid hnc
  have HN := Lib.hid hn
  have HAW := Lib.hid (fun (W : World) (hb : Below wb.heap.size wb W) => awake_any W (HT.out.later hb) (HZ.out.below hb (by unfold vB at hvb'; omega)) (Nat.le_trans hvb' hb.size))
  have HLE := Lib.hid (show w.heap.size ≤ wb.heap.size by omega)
  have hfin : ∀ W, Below wb.heap.size wb W → Below w.heap.size w W := fun W hb => HB0.out.trans (hb.mono HLE.out)
  have HFIN := Lib.hid hfin
  clear ht hz hl hf hr hnc hn hb0 hgb hfin hsz
  go_enter Tryz.func4, Tryz.ntmps4
  go_wp2_with fail
  rw [← hwb]
  refine (great_any c pa ca l.length pf cf fl.length pr cr R.length _).mono ?_
  rintro e w1 ⟨rfl, hb1⟩
  clear hwb
  have HB1 := Lib.hid hb1
  have HG1 := Lib.hid (HGB.out.later hb1)
  clear hb1 HGB
  cases hgt : gtB l.length fl.length R.length with
  | true =>
    clear hgt
    go_wp2_with fail
    refine (HAW.out _ HB1.out).mono ?_
    rintro e w2 ⟨rfl, hb2⟩
    have HB2 := Lib.hid (HB1.out.trans (hb2.mono HB1.out.size))
    clear hb2
    go_wp2_with fail
    go_ret
    exact ⟨rfl, HFIN.out _ HB2.out⟩
  | false =>
    obtain ⟨hl40, hf200, hr40⟩ := gtB_false hgt
    clear hgt
    go_wp2_with fail
    refine (HAW.out _ HB1.out).mono ?_
    rintro e w2 ⟨rfl, hb2⟩
    have HB2 := Lib.hid (HB1.out.trans (hb2.mono HB1.out.size))
    obtain ⟨k0, k1, k2, k3, k4, k5, k6, k7, k8, hsz⟩ := HG1.out.later hb2
    clear hb2 HG1
    go_wp2_with fail
    clear k0 k1 k2 k3 k4 k5 k6 k7 k8 hsz
    refine (mk_any w.heap.size c n nc pa ca l pf cf fl w2 (HT.out.later HB2.out) HN.out HNC.out (Nat.le_trans HLE.out HB2.out.size) (HTH.out.below (HB2.out.mono HLE.out)) hla (HF.out.below (HB2.out.mono HLE.out)) hfl).mono ?_
    rintro e w3 ⟨H, d, m, rfl, hg⟩
    have HL3 := Lib.hid (hg.from HB2.out)
    have hmm := hg.hm
    have hall := hg.all
    clear hg
    generalize sM (little c) n nc l fl = s at *
    have HWF := Lib.hid HL3.out.is.wf
    have HK4 := Lib.hid HL3.out.is.tb.kLt
    obtain ⟨cx0, cx1⟩ := HBX.out w3 HL3.out.bel
    have hws := (Rf.words_wrap HWF.out).1
    have HOA := Lib.hid (objects_any w3 HL3.out.is (HL3.out.tabs HT.out))
    go_wp2_with fail
    go_region
    clear cx0 cx1 HOA
    have HL4 := Lib.hid (show Lv wb w3.drew H d s m from HL3.out.later (below_drewN (Below.refl _ _) 1))
    clear HL3
    generalize w3.drew = w4 at *
    clear w3
    go_wp2_with fail
    refine (objects_any w4 HL4.out.is (HL4.out.tabs HT.out)).mono ?_
    rintro e w5 ⟨p, kp, rfl, ho, hb5⟩
    have HL5 := Lib.hid (HL4.out.later hb5)
    have HK5 := Lib.hid (show Kr w5 H d p (objL s) from ⟨Rd.of_owns ho, fun g hg _ e => by have := HL4.out.is.lt e; have := (owns_lt ho hg).1; omega⟩)
    clear ho hb5 HL4
    by_cases hcl : (x0 == 0 || x0 == 1) = true
    · obtain ⟨b, rfl⟩ : ∃ b, clr b = x0 := by
        simp only [Bool.or_eq_true, beq_iff_eq] at hcl
        rcases hcl with e | e
        · exact ⟨false, e.symm⟩
        · exact ⟨true, e.symm⟩
      have hb01 := clr_bd b
      have cb0 : ¬ clr b < 0 := by omega
      have cb1 : ¬ 1 < clr b := by omega
      by_cases hrm : x1 < 1 ∨ 4096 < x1
      · have HM := Lib.hid (mark_nor H (clr b) x1 pr R.length cr hcl hrm w5)
        have HE := Lib.hid (HFIN.out _ HL5.out.bel)
        clear HL5 HK5 hcl hb01
        by_cases h1 : x1 < 1
        · clear hrm
          go_wp2_with (go_at_call 22; refine HM.out.mono ?_; rintro e w6 ⟨rfl, rfl⟩)
          go_ret
          exact ⟨rfl, HE.out⟩
        · have h2 : 4096 < x1 := by omega
          clear hrm
          go_wp2_with (go_at_call 22; refine HM.out.mono ?_; rintro e w6 ⟨rfl, rfl⟩)
          go_ret
          exact ⟨rfl, HE.out⟩
      · obtain ⟨rn, rfl⟩ := Int.eq_ofNat_of_zero_le (show 0 ≤ x1 by omega)
        have r1 : ¬ (rn : Int) < 1 := by omega
        have r2 : ¬ 4096 < (rn : Int) := by omega
        have HM := Lib.hid (mark_any (room := rn) b cr (HR.out.ask HL5.out HT.out HZ.out hvb' (by omega) hrl) (by omega) (by omega) (by omega))
        clear hrm
        go_wp2_with fail
        refine HM.out.mono ?_
        rintro e w6 ⟨q, ag, os1, d6, rfl, hT, hcol, rfl, hag, hroom⟩
        have HL6 := Lib.hid (show Lv wb w6 H d6 (wo s os1) (m + 80 * (objL s).length) from HL5.out.tn hT)
        have HK6 := Lib.hid (HK5.out.tn hT)
        have HCO := Lib.hid hcol
        clear hT hcol HM HL5 HK5
        have hol : (objL (wo s os1)).length = (objL s).length := rfl
        have HOF := Lib.hid (show Calls Tryz.prog 11 #[.pointer (some ⟨H, 0, none⟩)] w6 fun e w' => ∃ pA cA pT cT vs d', e = .returned (.agg #[.slice pA (objL s).length cA, .slice pT (objL s).length cT]) ∧ Tn w6 H d6 w' d' (wo s os1) (m + 80 * (objL s).length + 40 * (objL s).length) ∧ Gr w' (wo s os1) pA pT vs from
          (of_any w6 HL6.out.is (HL6.out.tabs HT.out) (by omega)).mono (by
            rintro e w' ⟨pA, cA, pT, cT, vs, d', rfl, h1, h2, h3, h4, h5, h6⟩
            exact ⟨pA, cA, pT, cT, vs, d', rfl, h1, Rd.of_owns h2, owns_any h4, h6.turn (fun g _ _ => ⟨rfl, trivial⟩)⟩))
        go_wp2_with fail
        refine HOF.out.mono ?_
        rintro e w7 ⟨pA, cA, pT, cT, vs, d7, rfl, hT, hgr⟩
        have HL7 := Lib.hid (HL6.out.tn hT)
        have HK7 := Lib.hid (HK6.out.tn hT)
        have HRR := Lib.hid (show Calls Tryz.prog 14 #[.agg #[.slice pA (objL s).length cA, .slice pT (objL s).length cT], .slice pr R.length cr] w7 (NewRow w7 (rcL s R)) from by
          rw [← rcL_wo s os1 R]
          exact refReach_any w7 hgr (HR.out.below HL7.out.bel).rd (fun g hg h0 => by
            obtain ⟨b, off, e, hb, _⟩ := HR.out 0 h0
            rw [e] at hg
            obtain rfl : b = g := by simpa [rowB] using hg
            exact Nat.lt_of_lt_of_le hb HL7.out.bel.size) HL7.out.is.wf HL7.out.is.tb.kLt (by omega) (by omega) hws)
        clear hT hgr HOF HL6 HK6
        go_wp2_with fail
        refine HRR.out.mono ?_
        rintro e w8 ⟨pi, ci, rfl, ho8, hb8⟩
        have HL8 := Lib.hid (HL7.out.later hb8)
        have HK8 := Lib.hid (HK7.out.later hb8)
        have HI8 := Lib.hid (show Kr w8 H d7 pi (rcL s R) from ⟨Rd.of_owns ho8, fun g hg _ e => by have := HL7.out.is.lt e; have := (owns_lt ho8 hg).1; omega⟩)
        clear ho8 hb8 HRR HL7 HK7
        have hrn := rcL_len s R
        have g0 : ¬ (ag : Int) < 0 := by omega
        have g1 : ¬ ((rcL s R).length : Int) < (ag : Int) := by omega
        have hnn : (((rcL s R).length : Int) == ((rcL s R).length : Int)) = true := by simp
        have HOB := Lib.hid (show Calls Tryz.prog 21 #[.pointer (some ⟨H, 0, none⟩)] w8 (NewRow w8 (objL s)) from by
          have h9 := objects_any (s := wo s os1) w8 HL8.out.is (HL8.out.tabs HT.out)
          exact h9)
        have HSM := Lib.hid (show ∀ (pz : Option Addr) (kz : Nat) (w9 : World), w9.ownsRow w8.heap.size 3 1 (.slice pz (objL s).length kz) (objL s).length (cellsZ (objL s)) → Below w8.heap.size w8 w9 → Calls Tryz.prog 12 #[.slice pz (objL s).length kz, .slice p (objL s).length kp] w9 fun e w' => e = .returned (.bool true) ∧ ∃ n, w' = w9.drewN n from fun pz kz w9 ho hb => same_any pz p kz kp (objL s) w9 (Rd.of_owns ho) (HK8.out.later hb).rd (by omega))
        have HCL := Lib.hid (show ∀ i, i < (objL s).length → (coV (wo s os1) ((objL s).getD i 0) == clr b) = decide ((objL s).getD i 0 ∈ rcL s R) from fun i hi => by
          have hb := objL_at HWF.out HK4.out hi
          have h1 := HCO.out _ hb
          rw [coV_wo hb]
          rw [show (if hasI os1 ((objL s).getD i 0) = true then (1 : Int) else 0) = clr (hasI os1 ((objL s).getD i 0)) from rfl]
          have h2 : ∀ x y : Bool, (clr x == clr y) = (x == y) := by decide
          rw [h2]
          cases hx : (hasI os1 ((objL s).getD i 0) == b) with
          | true => exact (decide_eq_true ((rcL_mem HWF.out HK4.out).2 (h1.1 hx))).symm
          | false => exact (decide_eq_false (fun e => by rw [h1.2 ((rcL_mem HWF.out HK4.out).1 e)] at hx; cases hx)).symm)
        have hor : (¬ ((objL s).length : Int) ≤ (rn : Int)) ∨ ((objL s).length : Int) ≤ (rn : Int) ∧ (ag : Int) = 0 := by
          by_cases hle : (objL s).length ≤ rn
          · exact .inr ⟨by omega, by rw [hroom hle]; rfl⟩
          · exact .inl (by omega)
        clear hroom hag hol
        have HRL := Lib.hid hrn
        generalize (ag : Int) = az at *
        rcases hor with hor | ⟨hor, rfl⟩
        all_goals
          go_wp2_with (first
            | (go_at_call 21; refine HOB.out.mono ?_; rintro e w9 ⟨pz, kz, rfl, ho9, hb9⟩; have HSS := Lib.hid (HSM.out pz kz w9 ho9 hb9); have HL9 := Lib.hid (HL8.out.later hb9); have HK9 := Lib.hid (HK8.out.later hb9); have HI9 := Lib.hid (HI8.out.later hb9); clear ho9 hb9)
            | (go_at_call 12; refine HSS.out.mono ?_; rintro e w10 ⟨rfl, nd, rfl⟩))
          have HL := Lib.hid (show Lv wb (w9.drewN nd) H d7 (wo s os1) _ from HL9.out.later (below_drewN (Below.refl _ _) nd))
          have HKK := Lib.hid (HK9.out.later (below_drewN (Below.refl _ w9) nd))
          have HII := Lib.hid (HI9.out.later (below_drewN (Below.refl _ w9) nd))
          clear HL8 HK8 HI8 HL9 HK9 HI9 HOB HSM HSS
          generalize w9.drewN nd = w11 at *
          go_loopw [15] (fun x wr => ∃ i : Nat, i ≤ (objL s).length ∧ x = .int .i64 (i : Int) ∧ Below w11.heap.size w11 wr) (fun x _ => (objL s).length - (intOf x).toNat)
          case atStart => exact ⟨0, Nat.zero_le _, rfl, Below.refl _ _⟩
          case round =>
            obtain ⟨i, hi, rfl, hb⟩ := hrel
            have HB := Lib.hid hb
            clear hb
            by_cases hlt : i < (objL s).length
            · have i0 : (0 : Int) ≤ (i : Int) := Int.natCast_nonneg _
              have i1 : (i : Int) < ((objL s).length : Int) := by omega
              obtain ⟨g, off, hp, hc⟩ := (HKK.out.later HB.out).rd.at hlt
              have hg2 : g < wr.heap.size := World.block_lt_of_cell? wr _ hc
              have HC := Lib.hid (color_any' ((objL s).getD i 0) wr (HL.out.is.later HB.out))
              rw [coE_wo (objL_at HWF.out HK4.out hlt)] at HC
              have hce := HCL.out i hlt
              have HIN := Lib.hid (show ∀ w12, Below wr.heap.size wr w12 → Calls Tryz.prog 18 #[.slice pi (rcL s R).length ci, .int .i64 ((objL s).getD i 0)] w12 fun e w' => e = .returned (.bool (decide ((objL s).getD i 0 ∈ rcL s R))) ∧ w12 = w' from fun w12 hb => in_any pi ci (rcL s R) _ w12 (((HII.out.later HB.out).later hb).rd.rd0) (by have := HRL.out; omega))
              subst hp
              generalize hx : decide ((objL s).getD i 0 ∈ rcL s R) = xx at *
              generalize coV (wo s os1) ((objL s).getD i 0) = y at *
              generalize (objL s).getD i 0 = v at *
              have HC2 := Lib.hid (show ∀ w8, Below wr.heap.size wr w8 → w8.cell? ⟨g, off + i, none⟩ = some (.int .i64 v) from fun w8 hb8 => (hb8.cell (p := ⟨g, off + i, none⟩) hg2).trans hc)
              clear hx
              cases xx
              all_goals
                go_wp2_with (first
                  | (go_at_call 23; refine HC.out.mono ?_; rintro e w12 ⟨rfl, hb12⟩; have hc12 := HC2.out w12 hb12; have HI12 := Lib.hid (HIN.out w12 hb12); have HB12 := Lib.hid (HB.out.trans (hb12.mono HB.out.size)); clear hb12)
                  | (go_at_call 18; refine HI12.out.mono ?_; rintro e w13 ⟨rfl, rfl⟩))
                go_roundw
                case rel => exact ⟨i + 1, by omega, by go_num, HB12.out⟩
                case measure => simp [intOf]; omega
            · have i1 : ¬ (i : Int) < ((objL s).length : Int) := by omega
              have HE := Lib.hid (HFIN.out _ (HL.out.later HB.out).bel)
              clear HL HKK HII HB
              go_wp2
              go_ret
              exact ⟨rfl, HE.out⟩
    · have HM := Lib.hid (mark_noc H x0 x1 pr R.length cr (by simpa using hcl) w5)
      have HE := Lib.hid (HFIN.out _ HL5.out.bel)
      have hne : ¬ x0 = 0 ∧ ¬ x0 = 1 := by
        simp only [Bool.or_eq_true, beq_iff_eq] at hcl
        exact ⟨fun e => hcl (.inl e), fun e => hcl (.inr e)⟩
      clear HL5 HK5 hcl
      by_cases h1 : x0 < 0
      · clear hne
        go_wp2_with (go_at_call 22; refine HM.out.mono ?_; rintro e w6 ⟨rfl, rfl⟩)
        go_ret
        exact ⟨rfl, HE.out⟩
      · have h2 : 1 < x0 := by omega
        clear hne
        go_wp2_with (go_at_call 22; refine HM.out.mono ?_; rintro e w6 ⟨rfl, rfl⟩)
        go_ret
        exact ⟨rfl, HE.out⟩
end Go.Proofs.YtpcgmkchflmcmaaGreatDoor.Tr
