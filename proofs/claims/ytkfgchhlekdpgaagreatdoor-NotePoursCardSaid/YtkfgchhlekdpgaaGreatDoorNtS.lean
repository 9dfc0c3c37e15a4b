/-
  NotePours.
-/
import Derived.Test.YtkfgchhlekdpgaaGreatDoorNtQ
import Derived.Lib.QuietBelow
namespace Go.Proofs.YtkfgchhlekdpgaaGreatDoor.Nt
open Go.RowKit
open Class (below_drewN)
open Hp (Ids St Is To Mine bnI bn coE coV colB objL st0)
open Lg (BfIs BxIs)
open Blk (Cfg little BytesP)
open Sw (ThingsP madeS Sm)
open Go.Proofs.YtkfgchhlekdpgaaGreatDoor.Row (Chg rowB Rd Rd0 cellsZ)
open Go.Proofs.YtkfgchhlekdpgaaGreatDoor.Addr (Tabs)

theorem nb_bnext {w : Bas} {wr : World} {H : Nat} {d : Ids} {s : St} {m B X F N room : Nat} {xs ys : List Int} {up : Bool} {ex : List (Nat × Value)} {y : Int} (h : Nb w wr H d s m B X F N room xs (y :: ys) up ex) : Calls Tryz.prog 29 #[.pointer (some ⟨X, 0, none⟩)] wr fun e w' => e = .returned (.tuple #[.int .i64 y, .bool true]) ∧ Nb w w' H d s m B X F N room xs ys up ex := by
  obtain ⟨T, t1, t2, t3, t4⟩ := h.lg
  refine (Lg.bnext_first wr t2).mono ?_
  rintro e w' ⟨rfl, h1, h2⟩
  exact ⟨rfl, h.log (h2.mono fun k hk => .inr hk) t3 t4 (t1.chg h2 (fun k hk => by subst hk; exact t4 _ (.inr (.inr (.inl rfl)))) (fun e => h.ne.1 e.symm)) h1⟩
theorem nb_bnone {w : Bas} {wr : World} {H : Nat} {d : Ids} {s : St} {m B X F N room : Nat} {xs : List Int} {up : Bool} {ex : List (Nat × Value)} (h : Nb w wr H d s m B X F N room xs [] up ex) : Calls Tryz.prog 29 #[.pointer (some ⟨X, 0, none⟩)] wr fun e w' => e = .returned (.tuple #[.int .i64 0, .bool false]) ∧ w' = wr := by
  obtain ⟨T, t1, t2, t3, t4⟩ := h.lg
  exact (Lg.bnext_empty wr t2).mono fun e w' h => ⟨h.1, h.2.symm⟩
set_option maxRecDepth 200000 in
set_option maxHeartbeats 8000000 in
theorem pours_A0 (q : Cs)  (n nc S : Nat) (V : World) (hp : Pre q n nc S V) (hgb : gB q = false) (hy : qY q n nc ≠ []) :
    Calls Tryz.prog 4 #[(.agg #[.int .i64 q.c.b, .int .i64 q.c.wd, .int .i64 q.c.m, .int .i64 q.c.r, .int .i64 q.c.ce, .int .i64 q.c.lg, .int .i64 q.c.st, .slice q.pt q.l.length q.ct, .slice q.pb q.bl.length q.cb, .slice q.px q.xl.length q.cx, .int .u8 q.room, .bool q.up]), .bool false] V fun e w' => e = .returned (.bool true) ∧ Below V.heap.size V w' := by
  have HPR := Lib.hid hp
  have HHY := Lib.hid hy
  clear hy
  have HGR : Hid (∀ W, Calls Tryz.prog 11 #[(.agg #[.int .i64 q.c.b, .int .i64 q.c.wd, .int .i64 q.c.m, .int .i64 q.c.r, .int .i64 q.c.ce, .int .i64 q.c.lg, .int .i64 q.c.st, .slice q.pt q.l.length q.ct, .slice q.pb q.bl.length q.cb, .slice q.px q.xl.length q.cx, .int .u8 q.room, .bool q.up])] W fun e w' => e = .returned (.bool false) ∧ Below W.heap.size W w') := Lib.hid fun W => by
    have h := great_any q W
    rw [hgb] at h
    exact h
  obtain ⟨V1, hV1⟩ : ∃ V1, V.alloc (.cells #[.int .i64 q.c.b, .int .i64 q.c.wd, .int .i64 q.c.m, .int .i64 q.c.r, .int .i64 q.c.ce, .int .i64 q.c.lg, .int .i64 q.c.st, .slice q.pt q.l.length q.ct, .slice q.pb q.bl.length q.cb, .slice q.px q.xl.length q.cx, .int .u8 q.room, .bool q.up] 27) = V1 := ⟨_, rfl⟩
  have HC1 : Hid (CaseAt q V1 V.heap.size) := Lib.hid (hV1 ▸ CaseAt.new q V)
  have HB1 : Hid (Below V.heap.size V V1) := Lib.hid (by rw [← hV1]; exact (Below.refl _ _).alloc (Nat.le_refl _) _)
  have HBV : Hid (∀ U, Below V1.heap.size V1 U → Below V.heap.size V U) := Lib.hid fun U hU => HB1.out.trans (hU.mono HB1.out.size)
  clear hp hgb
  obtain ⟨k0, k1, k2, k3, k4, k5, k6, k7, k8, k9, k10, k11⟩ := HC1.out
  go_enter Tryz.func4, Tryz.ntmps4
  go_wp2_with fail
  refine (HGR.out _).mono ?_
  rintro e w2 ⟨rfl, hb2⟩
  have HP2 : Hid (Below V1.heap.size V1 w2) := Lib.hid hb2
  clear hb2 HGR k0 k1 k2 k3 k4 k5 k6 k7 k8 k9 k10 k11
  go_wp2_with (go_at_call 12; fail)
  refine (awake_any _ (HPR.out.ht.later (HBV.out _ HP2.out))).mono ?_
  rintro e w3 ⟨rfl, hb3⟩
  have HP3 : Hid (Below V1.heap.size V1 w3) := Lib.hid (HP2.out.trans (hb3.mono HP2.out.size))
  clear hb3 HP2
  obtain ⟨k0, k1, k2, k3, k4, k5, k6, k7, k8, k9, k10, k11⟩ := HC1.out.later HP3.out
  go_wp2_with (go_at_call 13; fail)
  refine ((HPR.out.later (HBV.out _ HP3.out)).parts).mono ?_
  rintro e w4 ⟨H, B, X, F, d, m, rfl, hp, hm, hsm⟩
  have HPB := Lib.hid hp
  have HLE : Hid ((objL (sQ q n nc)).length ≤ 1000) := Lib.hid (obj_le hsm)
  have HP4 : Hid (Below V1.heap.size V1 w4) := Lib.hid (HP3.out.trans (hp.bel.mono HP3.out.size))
  clear hp hm hsm k0 k1 k2 k3 k4 k5 k6 k7 k8 k9 k10 k11
  go_wp2_with (go_at_call 14; fail)
  refine (new_any HPB.out).mono ?_
  rintro e w5 ⟨rfl, hn5⟩
  generalize w4.heap.size = N at *
  have HP5 : Hid (Below V1.heap.size V1 w5) := Lib.hid (HP3.out.trans ((hn5.bel.below (fun _ e => e.elim) (Nat.le_refl _)).mono HP3.out.size))
  have HN5 := Lib.hid hn5
  have HGE : Hid (∀ k, own H d B X F k → V.heap.size < k) := Lib.hid fun k hk => by
    have h1 := HPB.out.ge k hk
    have h2 := HP3.out.size
    have h3 := HC1.out.lt
    omega
  clear hn5 HPB
  go_wp2_with (go_at_call 15; fail)
  refine (colors_any w5 HN5.out.is (HPR.out.ht.later (HBV.out _ HP5.out)) (by have := HLE.out; omega)).mono ?_
  rintro e w6 ⟨p1, c1, p2, c2, rfl, hr1, hr2, hb6, hg6⟩
  have HR1 := Lib.hid hr1
  have HR2 := Lib.hid hr2
  have HG6 : Hid (∀ g, rowB p1 g ∨ rowB p2 g → ¬ own H d B X F g) := Lib.hid fun g hg hk => by
    have h1 := hg6 g hg
    have h2 := HN5.out.lt hk
    omega
  have HN6 := Lib.hid (HN5.out.later hb6)
  have HP6 : Hid (Below V1.heap.size V1 w6) := Lib.hid (HP5.out.trans (hb6.mono HP5.out.size))
  clear hr1 hr2 hb6 hg6 HN5
  have HCL : Hid ((coL (sQ q n nc)).length = (objL (sQ q n nc)).length) := Lib.hid (by simp [coL])
  go_wp2_with (go_at_call 16; fail)
  refine (nb_all HN6.out).mono ?_
  rintro e w7 ⟨p3, c3, rfl, hr3, hb7, hg3⟩
  have HR3 := Lib.hid hr3
  have HX7 : Hid (Below w6.heap.size w6 w7) := Lib.hid hb7
  have HG3 : Hid (∀ g, rowB p3 g → w6.heap.size ≤ g) := Lib.hid hg3
  clear hr3 hb7 hg3
  go_wp2_with (go_at_call 17; fail)
  refine (nb_blen (HN6.out.later HX7.out)).mono ?_
  rintro e w8 ⟨rfl, hb8⟩
  have HX8 : Hid (Below w6.heap.size w6 w8) := Lib.hid (HX7.out.trans (hb8.mono HX7.out.size))
  have HY8 : Hid (Below w7.heap.size w7 w8) := Lib.hid hb8
  clear hb8
  have HN8 := Lib.hid ((HN6.out.later HX8.out).rebase (HPR.out.ht.later (HBV.out _ (HP6.out.trans (HX8.out.mono HP6.out.size)))))
  have HP8 : Hid (Below V.heap.size V w8) := Lib.hid (HBV.out _ (HP6.out.trans (HX8.out.mono HP6.out.size)))
  have HL8 : Hid (Lc w8 q V.heap.size p1 p2 p3 (objL (sQ q n nc)) (coL (sQ q n nc)) (qX q n nc)) := Lib.hid ⟨HR1.out.later HX8.out, HR2.out.later HX8.out, HR3.out.later HY8.out, HC1.out.later (HP6.out.trans (HX8.out.mono HP6.out.size))⟩
  have HOW : Hid (∀ g, (rowB p1 g ∨ rowB p2 g ∨ rowB p3 g) → ¬ own H d B X F g) := Lib.hid fun g hg hk => by
    rcases hg with hg | hg | hg
    · exact HG6.out g (.inl hg) hk
    · exact HG6.out g (.inr hg) hk
    · have h1 := HG3.out g hg
      have h2 := HN6.out.lt hk
      omega
  have HBO : Hid (¬ own H d B X F V.heap.size) := Lib.hid fun e => by have := HGE.out _ e; omega
  have HVS : Hid (∀ k, own H d B X F k → V.heap.size ≤ k) := Lib.hid fun k e => by have := HGE.out _ e; omega
  clear HR1 HR2 HR3 HG3 HG6 HN6 HX7 HX8 HY8 HP6 HP5 HP4 HC1 HB1 HBV HGE
  have hqx : addsL (1 + q.room % 6) (objL (sQ q n nc)) q.bl = qX q n nc := rfl
  have hqy : addsL 256 (objL (sQ q n nc)) q.xl = qY q n nc := rfl
  rw [hqx, hqy] at *
  clear hqx hqy
  have his := HN8.out.is
  have hin2 : ∀ a ∈ (qX q n nc), a ∈ objL (sQ q n nc) := fun a ha => addsL_mem ha
  have hbn : ∀ a ∈ (qX q n nc), bnI (sQ q n nc) a = true := fun a ha => (obj_mem his).1 (hin2 a ha)
  have HIN2 := Lib.hid hin2
  have HBN := Lib.hid hbn
  have HIS := Lib.hid his
  have HXL : Hid ((qX q n nc).length ≤ 6) := Lib.hid (by
    have := addsL_len (r := (1 + q.room % 6)) (al := objL (sQ q n nc)) (zs := q.bl)
    unfold qX
    omega)
  have HKE : Hid (pK 0 (sQ q n nc) (qX q n nc) (qY q n nc) = poK (coV (sQ q n nc)) 0 (qX q n nc) (qY q n nc).length) := Lib.hid (pK_eq (Og.of his) (by rfl) hbn (qY q n nc))
  have HKL : Hid (poK (coV (sQ q n nc)) 0 (qX q n nc) (qY q n nc).length + 1 ≤ 1000) := Lib.hid (by have := poK_le (coV (sQ q n nc)) 0 (qX q n nc) (qY q n nc).length; have := HXL.out; omega)
  clear his hin2 hbn
  go_wp2_with (go_at_call 20; fail)
  refine (once_any _).mono ?_
  rintro e w9 ⟨rfl, hw9⟩
  have HN9 : Hid (Nb ⟨w8, own H d B X F⟩ w9 H d (sQ q n nc) m B X F N (1 + q.room % 6) (qX q n nc) (qY q n nc) q.up [(w8.heap.size, .nilFunc)]) := Lib.hid (by
    rw [hw9]
    exact (HN8.out.later ((Below.refl _ _).alloc (Nat.le_refl _) _)).box (World.cell?_alloc_new ..) (HN8.out.not_new (Nat.le_refl _)))
  clear hw9
  have HNO := Lib.hid (pour_any 0 1 ⟨fun _ => True, fun U => ∃ d', Nb ⟨w8, own H d B X F⟩ U H d' (pT 0 (sQ q n nc) (qX q n nc) (qY q n nc)) m B X F N (1 + q.room % 6) [] (pY (qX q n nc) (qY q n nc)) (q.up || pU 0 (sQ q n nc) (qX q n nc) (qY q n nc)) [(w8.heap.size, .nilFunc)]⟩ (fun _ _ _ _ _ _ _ => trivial) (.func (.func 76) #[] #[.pointer (some ⟨w8.heap.size, 0, none⟩)]) (.inr ⟨_, _, rfl⟩) (qX q n nc) (qY q n nc) d (sQ q n nc) q.up [(w8.heap.size, .nilFunc)] w9 HN9.out (fun U d' h => does_once _ w8.heap.size U (h.at (by simp)) trivial ⟨d', h⟩))
  rw [HKE.out] at HNO
  go_wp2_with (go_at_call 27; fail)
  refine HNO.out.mono ?_
  rintro e w10 ⟨u, rfl, hd⟩
  have HRN := Lib.hid (run_any _ _ 1000 u w10 hd HKL.out (by decide))
  clear hd HNO
  go_wp2_with (go_at_call 18; fail)
  refine HRN.out.mono ?_
  rintro e w11 ⟨rfl, d2, hn11⟩
  have HLC : Hid (∀ U s ys up, Nb ⟨w8, own H d B X F⟩ U H d2 s m B X F N (1 + q.room % 6) [] ys up [(w8.heap.size, .nilFunc)] → Lc U q V.heap.size p1 p2 p3 (objL (sQ q n nc)) (coL (sQ q n nc)) (qX q n nc) ∧ Below V.heap.size V U) := Lib.hid fun U s ys up h => ⟨HL8.out.chg h.bel HBO.out HOW.out, HP8.out.trans (h.bel.below HVS.out HP8.out.size)⟩
  have HN11 := Lib.hid hn11
  have HL11 := Lib.hid (HLC.out _ _ _ _ hn11).1
  clear hn11 HRN HN9 HN8 HL8 HP8 HOW HBO HVS HKE HKL
  go_wp2_with (go_at_call 23; fail)
  refine (poured_any (coV (sQ q n nc)) 0 (qY q n nc).length (objL (sQ q n nc)) (qX q n nc) p1 p2 p3 c1 c2 c3 w11 HL11.out.r1 HL11.out.r2 HL11.out.r3 (by have := HLE.out; omega) (by have := HXL.out; omega) HIN2.out).mono ?_
  rintro e wb ⟨pf, cf, rfl, hrf, hbb⟩
  have HFR0 := Lib.hid hrf
  have HKP := Lib.hid (poK_le (coV (sQ q n nc)) 0 (qX q n nc) (qY q n nc).length)
  have HFL0 := Lib.hid (poR_le (coV (sQ q n nc)) 0 (qX q n nc) (qY q n nc).length)
  have HPUE := Lib.hid (pU_eq (Og.of HIS.out) (c := 0) (by rfl) HBN.out (qY q n nc))
  have HOK := Lib.hid (pT_ok (Og.of HIS.out) (c := 0) (by rfl) HBN.out (qY q n nc) (objL (sQ q n nc)) (fun a ha => (obj_mem HIS.out).1 ha))
  have HLB := Lib.hid (HL11.out.later hbb)
  have HNB0 := Lib.hid (HN11.out.later hbb)
  clear hrf hbb HL11 HN11
  generalize (poR (coV (sQ q n nc)) 0 (qX q n nc) (qY q n nc).length) = fr at *
  generalize (poK (coV (sQ q n nc)) 0 (qX q n nc) (qY q n nc).length) = kk at *
  obtain ⟨fl, hfl⟩ : ∃ fl, fr.length = fl := ⟨_, rfl⟩
  rw [hfl]
  have HFL := Lib.hid hfl
  clear hfl
  obtain ⟨bb, hbb⟩ : ∃ bb, decide (0 < fl) = bb := ⟨_, rfl⟩
  have HNB : Hid (Nb ⟨w8, own H d B X F⟩ wb H d2 (pT 0 (sQ q n nc) (qX q n nc) (qY q n nc)) m B X F N (1 + q.room % 6) [] (pY (qX q n nc) (qY q n nc)) (q.up || bb) [(w8.heap.size, .nilFunc)]) := Lib.hid (by
    have h := HNB0.out
    rw [HPUE.out, HFL.out, hbb] at h
    exact h)
  have hk8 : (kk : Int) ≤ 8 := by have := HKP.out; have := HXL.out; omega
  have hk0 : (0 : Int) ≤ (kk : Int) := by omega
  have hse : ((kk : Int) + 1 != (kk : Int) + 1) = false := by simp
  have hwr : IntKind.i64.wrap ((kk : Int) + 1) = (kk : Int) + 1 := by rw [IntKind.wrap_i64]; omega
  have HHW := Lib.hid hwr
  clear hwr
  obtain ⟨ub, hub0⟩ : ∃ ub, q.up = ub := ⟨_, rfl⟩
  have k11 := HLB.out.cs.2.2.2.2.2.2.2.2.2.2.2
  rw [hub0] at HNB k11 ⊢
  have HUB := Lib.hid hub0
  clear hub0 HPUE HNB0
  have HPY : Hid (pY (qX q n nc) (qY q n nc) = qY q n nc) := Lib.hid (by
    unfold pY
    have hy := HHY.out
    rw [if_neg hy, ite_self])
  rw [HPY.out] at HNB
  obtain ⟨yl, hyl⟩ : ∃ yl, (qY q n nc).length = yl := ⟨_, rfl⟩
  rw [hyl]
  have HYL := Lib.hid hyl
  have hy0 : 0 < yl := by
    rw [← hyl]
    exact List.length_pos_iff.2 HHY.out
  have hy1 : (0 : Int) < (yl : Int) := by omega
  clear hyl
  have HD0 : Hid (Below wb.heap.size wb wb) := Lib.hid (Below.refl _ _)
  have HD1 : Hid (Below wb.heap.size wb wb.drew) := Lib.hid (Below.refl _ _).drew
  have HDN : Hid (∀ n, Below wb.heap.size wb (wb.drewN n)) := Lib.hid fun n => below_drewN (Below.refl _ _) n
  have HLN : Hid (∀ U, Below wb.heap.size wb U → Calls Tryz.prog 28 #[.pointer (some ⟨B, 0, none⟩)] U fun e w' => e = .returned (.int .i64 0) ∧ Below U.heap.size U w') := Lib.hid fun U hU => (nb_len (HNB.out.later hU)).mono fun e w' h => ⟨h.1, by rw [h.2]; exact Below.refl _ _⟩
  have HGR : Hid (∀ d os, Below wb.heap.size wb (Sort.grow (redrawn wb d) os)) := Lib.hid fun d os => below_regrown wb d os
  have HUP := Lib.hid (fun U (hU : Below wb.heap.size wb U) => nb_up (HNB.out.later hU))
  have HPN := Lib.hid (fun U (hU : Below wb.heap.size wb U) => painted_any (coV (sQ q n nc)) 0 (objL (sQ q n nc)) fr p1 p2 pf c1 c2 cf U (HNB.out.later hU).is (HLB.out.r1.later hU) (HLB.out.r2.later hU) (HFR0.out.later hU) (by have := HLE.out; omega) (by have := HFL0.out; have := HXL.out; omega) HOK.out)
  rw [HFL.out] at HPN
  have HK : Hid (∀ U, Below wb.heap.size wb U → U.cell? ⟨V.heap.size, 11, none⟩ = some (.bool ub)) := Lib.hid fun U hU => by
    have h := (HLB.out.later hU).cs.2.2.2.2.2.2.2.2.2.2.2
    rw [HUB.out] at h
    exact h
  have hub : (bb != bb) = false := by simp
  have hbi : decide ((0 : Int) < (fl : Int)) = bb := by rw [← hbb]; simp
  go_wp2_with fail
  have hwr := HHW.out
  clear k11
  cases ub
  · rw [Bool.false_or] at HUP HNB
    have hk11 := HK.out _ HD0.out
    have hkg := cell_regrown hk11
    refine wp_region_quiet_below (by kernel_rfl) (by kernel_rfl) ?_
    repeat (go_big_quiet_step (first
      | (go_at_call 28; exact Calls.regrown_of (HLN.out _ (HGR.out _ _)))
      | (go_at_call 25; exact Calls.regrown_of (HUP.out _ (HGR.out _ _)))
      | (go_at_call 26; exact Calls.regrown_of (HPN.out _ (HGR.out _ _)))))
    refine wpQuiet_nil ?_
    intro wp hw'
    have HBP := Lib.hid (Addr.below_of_regrown hw')
    clear hw' hkg hk11 hwr
    have HNP := Lib.hid (HNB.out.later HBP.out)
    have HBL := Lib.hid (nb_blen HNP.out)
    rw [HYL.out] at HBL
    go_wp2_with (go_at_call 17; fail)
    refine HBL.out.mono ?_
    rintro e wz ⟨rfl, hbz⟩
    have HBZ : Hid (Below V.heap.size V wz) := Lib.hid (by
      have h1 := (HLC.out _ _ _ _ HNP.out).2
      exact h1.trans (hbz.mono h1.size))
    clear hbz
    have hyy : ((yl : Int) == (yl : Int)) = true := by simp
    go_wp2_with fail
    go_ret
    exact ⟨rfl, HBZ.out⟩
  · rw [Bool.true_or] at HUP HNB
    have hk11 := HK.out _ HD0.out
    have hkg := cell_regrown hk11
    refine wp_region_quiet_below (by kernel_rfl) (by kernel_rfl) ?_
    repeat (go_big_quiet_step (first
      | (go_at_call 28; exact Calls.regrown_of (HLN.out _ (HGR.out _ _)))
      | (go_at_call 25; exact Calls.regrown_of (HUP.out _ (HGR.out _ _)))
      | (go_at_call 26; exact Calls.regrown_of (HPN.out _ (HGR.out _ _)))))
    refine wpQuiet_nil ?_
    intro wp hw'
    have HBP := Lib.hid (Addr.below_of_regrown hw')
    clear hw' hkg hk11 hwr
    have HNP := Lib.hid (HNB.out.later HBP.out)
    have HBL := Lib.hid (nb_blen HNP.out)
    rw [HYL.out] at HBL
    go_wp2_with (go_at_call 17; fail)
    refine HBL.out.mono ?_
    rintro e wz ⟨rfl, hbz⟩
    have HBZ : Hid (Below V.heap.size V wz) := Lib.hid (by
      have h1 := (HLC.out _ _ _ _ HNP.out).2
      exact h1.trans (hbz.mono h1.size))
    clear hbz
    have hyy : ((yl : Int) == (yl : Int)) = true := by simp
    go_wp2_with fail
    go_ret
    exact ⟨rfl, HBZ.out⟩

set_option maxRecDepth 200000 in
set_option maxHeartbeats 8000000 in
theorem pours_A1 (q : Cs)  (n nc S : Nat) (V : World) (hp : Pre q n nc S V) (hgb : gB q = false) (hy : qY q n nc ≠ []) :
    Calls Tryz.prog 4 #[(.agg #[.int .i64 q.c.b, .int .i64 q.c.wd, .int .i64 q.c.m, .int .i64 q.c.r, .int .i64 q.c.ce, .int .i64 q.c.lg, .int .i64 q.c.st, .slice q.pt q.l.length q.ct, .slice q.pb q.bl.length q.cb, .slice q.px q.xl.length q.cx, .int .u8 q.room, .bool q.up]), .bool true] V fun e w' => e = .returned (.bool true) ∧ Below V.heap.size V w' := by
  have HPR := Lib.hid hp
  have HHY := Lib.hid hy
  clear hy
  have HGR : Hid (∀ W, Calls Tryz.prog 11 #[(.agg #[.int .i64 q.c.b, .int .i64 q.c.wd, .int .i64 q.c.m, .int .i64 q.c.r, .int .i64 q.c.ce, .int .i64 q.c.lg, .int .i64 q.c.st, .slice q.pt q.l.length q.ct, .slice q.pb q.bl.length q.cb, .slice q.px q.xl.length q.cx, .int .u8 q.room, .bool q.up])] W fun e w' => e = .returned (.bool false) ∧ Below W.heap.size W w') := Lib.hid fun W => by
    have h := great_any q W
    rw [hgb] at h
    exact h
  obtain ⟨V1, hV1⟩ : ∃ V1, V.alloc (.cells #[.int .i64 q.c.b, .int .i64 q.c.wd, .int .i64 q.c.m, .int .i64 q.c.r, .int .i64 q.c.ce, .int .i64 q.c.lg, .int .i64 q.c.st, .slice q.pt q.l.length q.ct, .slice q.pb q.bl.length q.cb, .slice q.px q.xl.length q.cx, .int .u8 q.room, .bool q.up] 27) = V1 := ⟨_, rfl⟩
  have HC1 : Hid (CaseAt q V1 V.heap.size) := Lib.hid (hV1 ▸ CaseAt.new q V)
  have HB1 : Hid (Below V.heap.size V V1) := Lib.hid (by rw [← hV1]; exact (Below.refl _ _).alloc (Nat.le_refl _) _)
  have HBV : Hid (∀ U, Below V1.heap.size V1 U → Below V.heap.size V U) := Lib.hid fun U hU => HB1.out.trans (hU.mono HB1.out.size)
  clear hp hgb
  obtain ⟨k0, k1, k2, k3, k4, k5, k6, k7, k8, k9, k10, k11⟩ := HC1.out
  go_enter Tryz.func4, Tryz.ntmps4
  go_wp2_with fail
  refine (HGR.out _).mono ?_
  rintro e w2 ⟨rfl, hb2⟩
  have HP2 : Hid (Below V1.heap.size V1 w2) := Lib.hid hb2
  clear hb2 HGR k0 k1 k2 k3 k4 k5 k6 k7 k8 k9 k10 k11
  go_wp2_with (go_at_call 12; fail)
  refine (awake_any _ (HPR.out.ht.later (HBV.out _ HP2.out))).mono ?_
  rintro e w3 ⟨rfl, hb3⟩
  have HP3 : Hid (Below V1.heap.size V1 w3) := Lib.hid (HP2.out.trans (hb3.mono HP2.out.size))
  clear hb3 HP2
  obtain ⟨k0, k1, k2, k3, k4, k5, k6, k7, k8, k9, k10, k11⟩ := HC1.out.later HP3.out
  go_wp2_with (go_at_call 13; fail)
  refine ((HPR.out.later (HBV.out _ HP3.out)).parts).mono ?_
  rintro e w4 ⟨H, B, X, F, d, m, rfl, hp, hm, hsm⟩
  have HPB := Lib.hid hp
  have HLE : Hid ((objL (sQ q n nc)).length ≤ 1000) := Lib.hid (obj_le hsm)
  have HP4 : Hid (Below V1.heap.size V1 w4) := Lib.hid (HP3.out.trans (hp.bel.mono HP3.out.size))
  clear hp hm hsm k0 k1 k2 k3 k4 k5 k6 k7 k8 k9 k10 k11
  go_wp2_with (go_at_call 14; fail)
  refine (new_any HPB.out).mono ?_
  rintro e w5 ⟨rfl, hn5⟩
  generalize w4.heap.size = N at *
  have HP5 : Hid (Below V1.heap.size V1 w5) := Lib.hid (HP3.out.trans ((hn5.bel.below (fun _ e => e.elim) (Nat.le_refl _)).mono HP3.out.size))
  have HN5 := Lib.hid hn5
  have HGE : Hid (∀ k, own H d B X F k → V.heap.size < k) := Lib.hid fun k hk => by
    have h1 := HPB.out.ge k hk
    have h2 := HP3.out.size
    have h3 := HC1.out.lt
    omega
  clear hn5 HPB
  go_wp2_with (go_at_call 15; fail)
  refine (colors_any w5 HN5.out.is (HPR.out.ht.later (HBV.out _ HP5.out)) (by have := HLE.out; omega)).mono ?_
  rintro e w6 ⟨p1, c1, p2, c2, rfl, hr1, hr2, hb6, hg6⟩
  have HR1 := Lib.hid hr1
  have HR2 := Lib.hid hr2
  have HG6 : Hid (∀ g, rowB p1 g ∨ rowB p2 g → ¬ own H d B X F g) := Lib.hid fun g hg hk => by
    have h1 := hg6 g hg
    have h2 := HN5.out.lt hk
    omega
  have HN6 := Lib.hid (HN5.out.later hb6)
  have HP6 : Hid (Below V1.heap.size V1 w6) := Lib.hid (HP5.out.trans (hb6.mono HP5.out.size))
  clear hr1 hr2 hb6 hg6 HN5
  have HCL : Hid ((coL (sQ q n nc)).length = (objL (sQ q n nc)).length) := Lib.hid (by simp [coL])
  go_wp2_with (go_at_call 16; fail)
  refine (nb_all HN6.out).mono ?_
  rintro e w7 ⟨p3, c3, rfl, hr3, hb7, hg3⟩
  have HR3 := Lib.hid hr3
  have HX7 : Hid (Below w6.heap.size w6 w7) := Lib.hid hb7
  have HG3 : Hid (∀ g, rowB p3 g → w6.heap.size ≤ g) := Lib.hid hg3
  clear hr3 hb7 hg3
  go_wp2_with (go_at_call 17; fail)
  refine (nb_blen (HN6.out.later HX7.out)).mono ?_
  rintro e w8 ⟨rfl, hb8⟩
  have HX8 : Hid (Below w6.heap.size w6 w8) := Lib.hid (HX7.out.trans (hb8.mono HX7.out.size))
  have HY8 : Hid (Below w7.heap.size w7 w8) := Lib.hid hb8
  clear hb8
  have HN8 := Lib.hid ((HN6.out.later HX8.out).rebase (HPR.out.ht.later (HBV.out _ (HP6.out.trans (HX8.out.mono HP6.out.size)))))
  have HP8 : Hid (Below V.heap.size V w8) := Lib.hid (HBV.out _ (HP6.out.trans (HX8.out.mono HP6.out.size)))
  have HL8 : Hid (Lc w8 q V.heap.size p1 p2 p3 (objL (sQ q n nc)) (coL (sQ q n nc)) (qX q n nc)) := Lib.hid ⟨HR1.out.later HX8.out, HR2.out.later HX8.out, HR3.out.later HY8.out, HC1.out.later (HP6.out.trans (HX8.out.mono HP6.out.size))⟩
  have HOW : Hid (∀ g, (rowB p1 g ∨ rowB p2 g ∨ rowB p3 g) → ¬ own H d B X F g) := Lib.hid fun g hg hk => by
    rcases hg with hg | hg | hg
    · exact HG6.out g (.inl hg) hk
    · exact HG6.out g (.inr hg) hk
    · have h1 := HG3.out g hg
      have h2 := HN6.out.lt hk
      omega
  have HBO : Hid (¬ own H d B X F V.heap.size) := Lib.hid fun e => by have := HGE.out _ e; omega
  have HVS : Hid (∀ k, own H d B X F k → V.heap.size ≤ k) := Lib.hid fun k e => by have := HGE.out _ e; omega
  clear HR1 HR2 HR3 HG3 HG6 HN6 HX7 HX8 HY8 HP6 HP5 HP4 HC1 HB1 HBV HGE
  have hqx : addsL (1 + q.room % 6) (objL (sQ q n nc)) q.bl = qX q n nc := rfl
  have hqy : addsL 256 (objL (sQ q n nc)) q.xl = qY q n nc := rfl
  rw [hqx, hqy] at *
  clear hqx hqy
  have his := HN8.out.is
  have hin2 : ∀ a ∈ (qX q n nc), a ∈ objL (sQ q n nc) := fun a ha => addsL_mem ha
  have hbn : ∀ a ∈ (qX q n nc), bnI (sQ q n nc) a = true := fun a ha => (obj_mem his).1 (hin2 a ha)
  have HIN2 := Lib.hid hin2
  have HBN := Lib.hid hbn
  have HIS := Lib.hid his
  have HXL : Hid ((qX q n nc).length ≤ 6) := Lib.hid (by
    have := addsL_len (r := (1 + q.room % 6)) (al := objL (sQ q n nc)) (zs := q.bl)
    unfold qX
    omega)
  have HKE : Hid (pK 1 (sQ q n nc) (qX q n nc) (qY q n nc) = poK (coV (sQ q n nc)) 1 (qX q n nc) (qY q n nc).length) := Lib.hid (pK_eq (Og.of his) (by rfl) hbn (qY q n nc))
  have HKL : Hid (poK (coV (sQ q n nc)) 1 (qX q n nc) (qY q n nc).length + 1 ≤ 1000) := Lib.hid (by have := poK_le (coV (sQ q n nc)) 1 (qX q n nc) (qY q n nc).length; have := HXL.out; omega)
  clear his hin2 hbn
  go_wp2_with (go_at_call 20; fail)
  refine (once_any _).mono ?_
  rintro e w9 ⟨rfl, hw9⟩
  have HN9 : Hid (Nb ⟨w8, own H d B X F⟩ w9 H d (sQ q n nc) m B X F N (1 + q.room % 6) (qX q n nc) (qY q n nc) q.up [(w8.heap.size, .nilFunc)]) := Lib.hid (by
    rw [hw9]
    exact (HN8.out.later ((Below.refl _ _).alloc (Nat.le_refl _) _)).box (World.cell?_alloc_new ..) (HN8.out.not_new (Nat.le_refl _)))
  clear hw9
  have HNO := Lib.hid (pour_any 1 1 ⟨fun _ => True, fun U => ∃ d', Nb ⟨w8, own H d B X F⟩ U H d' (pT 1 (sQ q n nc) (qX q n nc) (qY q n nc)) m B X F N (1 + q.room % 6) [] (pY (qX q n nc) (qY q n nc)) (q.up || pU 1 (sQ q n nc) (qX q n nc) (qY q n nc)) [(w8.heap.size, .nilFunc)]⟩ (fun _ _ _ _ _ _ _ => trivial) (.func (.func 76) #[] #[.pointer (some ⟨w8.heap.size, 0, none⟩)]) (.inr ⟨_, _, rfl⟩) (qX q n nc) (qY q n nc) d (sQ q n nc) q.up [(w8.heap.size, .nilFunc)] w9 HN9.out (fun U d' h => does_once _ w8.heap.size U (h.at (by simp)) trivial ⟨d', h⟩))
  rw [HKE.out] at HNO
  go_wp2_with (go_at_call 27; fail)
  refine HNO.out.mono ?_
  rintro e w10 ⟨u, rfl, hd⟩
  have HRN := Lib.hid (run_any _ _ 1000 u w10 hd HKL.out (by decide))
  clear hd HNO
  go_wp2_with (go_at_call 18; fail)
  refine HRN.out.mono ?_
  rintro e w11 ⟨rfl, d2, hn11⟩
  have HLC : Hid (∀ U s ys up, Nb ⟨w8, own H d B X F⟩ U H d2 s m B X F N (1 + q.room % 6) [] ys up [(w8.heap.size, .nilFunc)] → Lc U q V.heap.size p1 p2 p3 (objL (sQ q n nc)) (coL (sQ q n nc)) (qX q n nc) ∧ Below V.heap.size V U) := Lib.hid fun U s ys up h => ⟨HL8.out.chg h.bel HBO.out HOW.out, HP8.out.trans (h.bel.below HVS.out HP8.out.size)⟩
  have HN11 := Lib.hid hn11
  have HL11 := Lib.hid (HLC.out _ _ _ _ hn11).1
  clear hn11 HRN HN9 HN8 HL8 HP8 HOW HBO HVS HKE HKL
  go_wp2_with (go_at_call 23; fail)
  refine (poured_any (coV (sQ q n nc)) 1 (qY q n nc).length (objL (sQ q n nc)) (qX q n nc) p1 p2 p3 c1 c2 c3 w11 HL11.out.r1 HL11.out.r2 HL11.out.r3 (by have := HLE.out; omega) (by have := HXL.out; omega) HIN2.out).mono ?_
  rintro e wb ⟨pf, cf, rfl, hrf, hbb⟩
  have HFR0 := Lib.hid hrf
  have HKP := Lib.hid (poK_le (coV (sQ q n nc)) 1 (qX q n nc) (qY q n nc).length)
  have HFL0 := Lib.hid (poR_le (coV (sQ q n nc)) 1 (qX q n nc) (qY q n nc).length)
  have HPUE := Lib.hid (pU_eq (Og.of HIS.out) (c := 1) (by rfl) HBN.out (qY q n nc))
  have HOK := Lib.hid (pT_ok (Og.of HIS.out) (c := 1) (by rfl) HBN.out (qY q n nc) (objL (sQ q n nc)) (fun a ha => (obj_mem HIS.out).1 ha))
  have HLB := Lib.hid (HL11.out.later hbb)
  have HNB0 := Lib.hid (HN11.out.later hbb)
  clear hrf hbb HL11 HN11
  generalize (poR (coV (sQ q n nc)) 1 (qX q n nc) (qY q n nc).length) = fr at *
  generalize (poK (coV (sQ q n nc)) 1 (qX q n nc) (qY q n nc).length) = kk at *
  obtain ⟨fl, hfl⟩ : ∃ fl, fr.length = fl := ⟨_, rfl⟩
  rw [hfl]
  have HFL := Lib.hid hfl
  clear hfl
  obtain ⟨bb, hbb⟩ : ∃ bb, decide (0 < fl) = bb := ⟨_, rfl⟩
  have HNB : Hid (Nb ⟨w8, own H d B X F⟩ wb H d2 (pT 1 (sQ q n nc) (qX q n nc) (qY q n nc)) m B X F N (1 + q.room % 6) [] (pY (qX q n nc) (qY q n nc)) (q.up || bb) [(w8.heap.size, .nilFunc)]) := Lib.hid (by
    have h := HNB0.out
    rw [HPUE.out, HFL.out, hbb] at h
    exact h)
  have hk8 : (kk : Int) ≤ 8 := by have := HKP.out; have := HXL.out; omega
  have hk0 : (0 : Int) ≤ (kk : Int) := by omega
  have hse : ((kk : Int) + 1 != (kk : Int) + 1) = false := by simp
  have hwr : IntKind.i64.wrap ((kk : Int) + 1) = (kk : Int) + 1 := by rw [IntKind.wrap_i64]; omega
  have HHW := Lib.hid hwr
  clear hwr
  obtain ⟨ub, hub0⟩ : ∃ ub, q.up = ub := ⟨_, rfl⟩
  have k11 := HLB.out.cs.2.2.2.2.2.2.2.2.2.2.2
  rw [hub0] at HNB k11 ⊢
  have HUB := Lib.hid hub0
  clear hub0 HPUE HNB0
  have HPY : Hid (pY (qX q n nc) (qY q n nc) = qY q n nc) := Lib.hid (by
    unfold pY
    have hy := HHY.out
    rw [if_neg hy, ite_self])
  rw [HPY.out] at HNB
  obtain ⟨yl, hyl⟩ : ∃ yl, (qY q n nc).length = yl := ⟨_, rfl⟩
  rw [hyl]
  have HYL := Lib.hid hyl
  have hy0 : 0 < yl := by
    rw [← hyl]
    exact List.length_pos_iff.2 HHY.out
  have hy1 : (0 : Int) < (yl : Int) := by omega
  clear hyl
  have HD0 : Hid (Below wb.heap.size wb wb) := Lib.hid (Below.refl _ _)
  have HD1 : Hid (Below wb.heap.size wb wb.drew) := Lib.hid (Below.refl _ _).drew
  have HDN : Hid (∀ n, Below wb.heap.size wb (wb.drewN n)) := Lib.hid fun n => below_drewN (Below.refl _ _) n
  have HLN : Hid (∀ U, Below wb.heap.size wb U → Calls Tryz.prog 28 #[.pointer (some ⟨B, 0, none⟩)] U fun e w' => e = .returned (.int .i64 0) ∧ Below U.heap.size U w') := Lib.hid fun U hU => (nb_len (HNB.out.later hU)).mono fun e w' h => ⟨h.1, by rw [h.2]; exact Below.refl _ _⟩
  have HGR : Hid (∀ d os, Below wb.heap.size wb (Sort.grow (redrawn wb d) os)) := Lib.hid fun d os => below_regrown wb d os
  have HUP := Lib.hid (fun U (hU : Below wb.heap.size wb U) => nb_up (HNB.out.later hU))
  have HPN := Lib.hid (fun U (hU : Below wb.heap.size wb U) => painted_any (coV (sQ q n nc)) 1 (objL (sQ q n nc)) fr p1 p2 pf c1 c2 cf U (HNB.out.later hU).is (HLB.out.r1.later hU) (HLB.out.r2.later hU) (HFR0.out.later hU) (by have := HLE.out; omega) (by have := HFL0.out; have := HXL.out; omega) HOK.out)
  rw [HFL.out] at HPN
  have HK : Hid (∀ U, Below wb.heap.size wb U → U.cell? ⟨V.heap.size, 11, none⟩ = some (.bool ub)) := Lib.hid fun U hU => by
    have h := (HLB.out.later hU).cs.2.2.2.2.2.2.2.2.2.2.2
    rw [HUB.out] at h
    exact h
  have hub : (bb != bb) = false := by simp
  have hbi : decide ((0 : Int) < (fl : Int)) = bb := by rw [← hbb]; simp
  go_wp2_with fail
  have hwr := HHW.out
  clear k11
  cases ub
  · rw [Bool.false_or] at HUP HNB
    have hk11 := HK.out _ HD0.out
    have hkg := cell_regrown hk11
    refine wp_region_quiet_below (by kernel_rfl) (by kernel_rfl) ?_
    repeat (go_big_quiet_step (first
      | (go_at_call 28; exact Calls.regrown_of (HLN.out _ (HGR.out _ _)))
      | (go_at_call 25; exact Calls.regrown_of (HUP.out _ (HGR.out _ _)))
      | (go_at_call 26; exact Calls.regrown_of (HPN.out _ (HGR.out _ _)))))
    refine wpQuiet_nil ?_
    intro wp hw'
    have HBP := Lib.hid (Addr.below_of_regrown hw')
    clear hw' hkg hk11 hwr
    have HNP := Lib.hid (HNB.out.later HBP.out)
    have HBL := Lib.hid (nb_blen HNP.out)
    rw [HYL.out] at HBL
    go_wp2_with (go_at_call 17; fail)
    refine HBL.out.mono ?_
    rintro e wz ⟨rfl, hbz⟩
    have HBZ : Hid (Below V.heap.size V wz) := Lib.hid (by
      have h1 := (HLC.out _ _ _ _ HNP.out).2
      exact h1.trans (hbz.mono h1.size))
    clear hbz
    have hyy : ((yl : Int) == (yl : Int)) = true := by simp
    go_wp2_with fail
    go_ret
    exact ⟨rfl, HBZ.out⟩
  · rw [Bool.true_or] at HUP HNB
    have hk11 := HK.out _ HD0.out
    have hkg := cell_regrown hk11
    refine wp_region_quiet_below (by kernel_rfl) (by kernel_rfl) ?_
    repeat (go_big_quiet_step (first
      | (go_at_call 28; exact Calls.regrown_of (HLN.out _ (HGR.out _ _)))
      | (go_at_call 25; exact Calls.regrown_of (HUP.out _ (HGR.out _ _)))
      | (go_at_call 26; exact Calls.regrown_of (HPN.out _ (HGR.out _ _)))))
    refine wpQuiet_nil ?_
    intro wp hw'
    have HBP := Lib.hid (Addr.below_of_regrown hw')
    clear hw' hkg hk11 hwr
    have HNP := Lib.hid (HNB.out.later HBP.out)
    have HBL := Lib.hid (nb_blen HNP.out)
    rw [HYL.out] at HBL
    go_wp2_with (go_at_call 17; fail)
    refine HBL.out.mono ?_
    rintro e wz ⟨rfl, hbz⟩
    have HBZ : Hid (Below V.heap.size V wz) := Lib.hid (by
      have h1 := (HLC.out _ _ _ _ HNP.out).2
      exact h1.trans (hbz.mono h1.size))
    clear hbz
    have hyy : ((yl : Int) == (yl : Int)) = true := by simp
    go_wp2_with fail
    go_ret
    exact ⟨rfl, HBZ.out⟩

set_option maxRecDepth 200000 in
set_option maxHeartbeats 8000000 in
theorem pours_B0 (q : Cs)  (n nc S : Nat) (V : World) (hp : Pre q n nc S V) (hgb : gB q = false) (hy : qY q n nc = []) :
    Calls Tryz.prog 4 #[(.agg #[.int .i64 q.c.b, .int .i64 q.c.wd, .int .i64 q.c.m, .int .i64 q.c.r, .int .i64 q.c.ce, .int .i64 q.c.lg, .int .i64 q.c.st, .slice q.pt q.l.length q.ct, .slice q.pb q.bl.length q.cb, .slice q.px q.xl.length q.cx, .int .u8 q.room, .bool q.up]), .bool false] V fun e w' => e = .returned (.bool true) ∧ Below V.heap.size V w' := by
  have HPR := Lib.hid hp
  have HHY := Lib.hid hy
  clear hy
  have HGR : Hid (∀ W, Calls Tryz.prog 11 #[(.agg #[.int .i64 q.c.b, .int .i64 q.c.wd, .int .i64 q.c.m, .int .i64 q.c.r, .int .i64 q.c.ce, .int .i64 q.c.lg, .int .i64 q.c.st, .slice q.pt q.l.length q.ct, .slice q.pb q.bl.length q.cb, .slice q.px q.xl.length q.cx, .int .u8 q.room, .bool q.up])] W fun e w' => e = .returned (.bool false) ∧ Below W.heap.size W w') := Lib.hid fun W => by
    have h := great_any q W
    rw [hgb] at h
    exact h
  obtain ⟨V1, hV1⟩ : ∃ V1, V.alloc (.cells #[.int .i64 q.c.b, .int .i64 q.c.wd, .int .i64 q.c.m, .int .i64 q.c.r, .int .i64 q.c.ce, .int .i64 q.c.lg, .int .i64 q.c.st, .slice q.pt q.l.length q.ct, .slice q.pb q.bl.length q.cb, .slice q.px q.xl.length q.cx, .int .u8 q.room, .bool q.up] 27) = V1 := ⟨_, rfl⟩
  have HC1 : Hid (CaseAt q V1 V.heap.size) := Lib.hid (hV1 ▸ CaseAt.new q V)
  have HB1 : Hid (Below V.heap.size V V1) := Lib.hid (by rw [← hV1]; exact (Below.refl _ _).alloc (Nat.le_refl _) _)
  have HBV : Hid (∀ U, Below V1.heap.size V1 U → Below V.heap.size V U) := Lib.hid fun U hU => HB1.out.trans (hU.mono HB1.out.size)
  clear hp hgb
  obtain ⟨k0, k1, k2, k3, k4, k5, k6, k7, k8, k9, k10, k11⟩ := HC1.out
  go_enter Tryz.func4, Tryz.ntmps4
  go_wp2_with fail
  refine (HGR.out _).mono ?_
  rintro e w2 ⟨rfl, hb2⟩
  have HP2 : Hid (Below V1.heap.size V1 w2) := Lib.hid hb2
  clear hb2 HGR k0 k1 k2 k3 k4 k5 k6 k7 k8 k9 k10 k11
  go_wp2_with (go_at_call 12; fail)
  refine (awake_any _ (HPR.out.ht.later (HBV.out _ HP2.out))).mono ?_
  rintro e w3 ⟨rfl, hb3⟩
  have HP3 : Hid (Below V1.heap.size V1 w3) := Lib.hid (HP2.out.trans (hb3.mono HP2.out.size))
  clear hb3 HP2
  obtain ⟨k0, k1, k2, k3, k4, k5, k6, k7, k8, k9, k10, k11⟩ := HC1.out.later HP3.out
  go_wp2_with (go_at_call 13; fail)
  refine ((HPR.out.later (HBV.out _ HP3.out)).parts).mono ?_
  rintro e w4 ⟨H, B, X, F, d, m, rfl, hp, hm, hsm⟩
  have HPB := Lib.hid hp
  have HLE : Hid ((objL (sQ q n nc)).length ≤ 1000) := Lib.hid (obj_le hsm)
  have HP4 : Hid (Below V1.heap.size V1 w4) := Lib.hid (HP3.out.trans (hp.bel.mono HP3.out.size))
  clear hp hm hsm k0 k1 k2 k3 k4 k5 k6 k7 k8 k9 k10 k11
  go_wp2_with (go_at_call 14; fail)
  refine (new_any HPB.out).mono ?_
  rintro e w5 ⟨rfl, hn5⟩
  generalize w4.heap.size = N at *
  have HP5 : Hid (Below V1.heap.size V1 w5) := Lib.hid (HP3.out.trans ((hn5.bel.below (fun _ e => e.elim) (Nat.le_refl _)).mono HP3.out.size))
  have HN5 := Lib.hid hn5
  have HGE : Hid (∀ k, own H d B X F k → V.heap.size < k) := Lib.hid fun k hk => by
    have h1 := HPB.out.ge k hk
    have h2 := HP3.out.size
    have h3 := HC1.out.lt
    omega
  clear hn5 HPB
  go_wp2_with (go_at_call 15; fail)
  refine (colors_any w5 HN5.out.is (HPR.out.ht.later (HBV.out _ HP5.out)) (by have := HLE.out; omega)).mono ?_
  rintro e w6 ⟨p1, c1, p2, c2, rfl, hr1, hr2, hb6, hg6⟩
  have HR1 := Lib.hid hr1
  have HR2 := Lib.hid hr2
  have HG6 : Hid (∀ g, rowB p1 g ∨ rowB p2 g → ¬ own H d B X F g) := Lib.hid fun g hg hk => by
    have h1 := hg6 g hg
    have h2 := HN5.out.lt hk
    omega
  have HN6 := Lib.hid (HN5.out.later hb6)
  have HP6 : Hid (Below V1.heap.size V1 w6) := Lib.hid (HP5.out.trans (hb6.mono HP5.out.size))
  clear hr1 hr2 hb6 hg6 HN5
  have HCL : Hid ((coL (sQ q n nc)).length = (objL (sQ q n nc)).length) := Lib.hid (by simp [coL])
  go_wp2_with (go_at_call 16; fail)
  refine (nb_all HN6.out).mono ?_
  rintro e w7 ⟨p3, c3, rfl, hr3, hb7, hg3⟩
  have HR3 := Lib.hid hr3
  have HX7 : Hid (Below w6.heap.size w6 w7) := Lib.hid hb7
  have HG3 : Hid (∀ g, rowB p3 g → w6.heap.size ≤ g) := Lib.hid hg3
  clear hr3 hb7 hg3
  go_wp2_with (go_at_call 17; fail)
  refine (nb_blen (HN6.out.later HX7.out)).mono ?_
  rintro e w8 ⟨rfl, hb8⟩
  have HX8 : Hid (Below w6.heap.size w6 w8) := Lib.hid (HX7.out.trans (hb8.mono HX7.out.size))
  have HY8 : Hid (Below w7.heap.size w7 w8) := Lib.hid hb8
  clear hb8
  have HN8 := Lib.hid ((HN6.out.later HX8.out).rebase (HPR.out.ht.later (HBV.out _ (HP6.out.trans (HX8.out.mono HP6.out.size)))))
  have HP8 : Hid (Below V.heap.size V w8) := Lib.hid (HBV.out _ (HP6.out.trans (HX8.out.mono HP6.out.size)))
  have HL8 : Hid (Lc w8 q V.heap.size p1 p2 p3 (objL (sQ q n nc)) (coL (sQ q n nc)) (qX q n nc)) := Lib.hid ⟨HR1.out.later HX8.out, HR2.out.later HX8.out, HR3.out.later HY8.out, HC1.out.later (HP6.out.trans (HX8.out.mono HP6.out.size))⟩
  have HOW : Hid (∀ g, (rowB p1 g ∨ rowB p2 g ∨ rowB p3 g) → ¬ own H d B X F g) := Lib.hid fun g hg hk => by
    rcases hg with hg | hg | hg
    · exact HG6.out g (.inl hg) hk
    · exact HG6.out g (.inr hg) hk
    · have h1 := HG3.out g hg
      have h2 := HN6.out.lt hk
      omega
  have HBO : Hid (¬ own H d B X F V.heap.size) := Lib.hid fun e => by have := HGE.out _ e; omega
  have HVS : Hid (∀ k, own H d B X F k → V.heap.size ≤ k) := Lib.hid fun k e => by have := HGE.out _ e; omega
  clear HR1 HR2 HR3 HG3 HG6 HN6 HX7 HX8 HY8 HP6 HP5 HP4 HC1 HB1 HBV HGE
  have hqx : addsL (1 + q.room % 6) (objL (sQ q n nc)) q.bl = qX q n nc := rfl
  have hqy : addsL 256 (objL (sQ q n nc)) q.xl = qY q n nc := rfl
  rw [hqx, hqy] at *
  clear hqx hqy
  have his := HN8.out.is
  have hin2 : ∀ a ∈ (qX q n nc), a ∈ objL (sQ q n nc) := fun a ha => addsL_mem ha
  have hbn : ∀ a ∈ (qX q n nc), bnI (sQ q n nc) a = true := fun a ha => (obj_mem his).1 (hin2 a ha)
  have HIN2 := Lib.hid hin2
  have HBN := Lib.hid hbn
  have HIS := Lib.hid his
  have HXL : Hid ((qX q n nc).length ≤ 6) := Lib.hid (by
    have := addsL_len (r := (1 + q.room % 6)) (al := objL (sQ q n nc)) (zs := q.bl)
    unfold qX
    omega)
  have HKE : Hid (pK 0 (sQ q n nc) (qX q n nc) (qY q n nc) = poK (coV (sQ q n nc)) 0 (qX q n nc) (qY q n nc).length) := Lib.hid (pK_eq (Og.of his) (by rfl) hbn (qY q n nc))
  have HKL : Hid (poK (coV (sQ q n nc)) 0 (qX q n nc) (qY q n nc).length + 1 ≤ 1000) := Lib.hid (by have := poK_le (coV (sQ q n nc)) 0 (qX q n nc) (qY q n nc).length; have := HXL.out; omega)
  clear his hin2 hbn
  go_wp2_with (go_at_call 20; fail)
  refine (once_any _).mono ?_
  rintro e w9 ⟨rfl, hw9⟩
  have HN9 : Hid (Nb ⟨w8, own H d B X F⟩ w9 H d (sQ q n nc) m B X F N (1 + q.room % 6) (qX q n nc) (qY q n nc) q.up [(w8.heap.size, .nilFunc)]) := Lib.hid (by
    rw [hw9]
    exact (HN8.out.later ((Below.refl _ _).alloc (Nat.le_refl _) _)).box (World.cell?_alloc_new ..) (HN8.out.not_new (Nat.le_refl _)))
  clear hw9
  have HNO := Lib.hid (pour_any 0 1 ⟨fun _ => True, fun U => ∃ d', Nb ⟨w8, own H d B X F⟩ U H d' (pT 0 (sQ q n nc) (qX q n nc) (qY q n nc)) m B X F N (1 + q.room % 6) [] (pY (qX q n nc) (qY q n nc)) (q.up || pU 0 (sQ q n nc) (qX q n nc) (qY q n nc)) [(w8.heap.size, .nilFunc)]⟩ (fun _ _ _ _ _ _ _ => trivial) (.func (.func 76) #[] #[.pointer (some ⟨w8.heap.size, 0, none⟩)]) (.inr ⟨_, _, rfl⟩) (qX q n nc) (qY q n nc) d (sQ q n nc) q.up [(w8.heap.size, .nilFunc)] w9 HN9.out (fun U d' h => does_once _ w8.heap.size U (h.at (by simp)) trivial ⟨d', h⟩))
  rw [HKE.out] at HNO
  go_wp2_with (go_at_call 27; fail)
  refine HNO.out.mono ?_
  rintro e w10 ⟨u, rfl, hd⟩
  have HRN := Lib.hid (run_any _ _ 1000 u w10 hd HKL.out (by decide))
  clear hd HNO
  go_wp2_with (go_at_call 18; fail)
  refine HRN.out.mono ?_
  rintro e w11 ⟨rfl, d2, hn11⟩
  have HLC : Hid (∀ U s ys up, Nb ⟨w8, own H d B X F⟩ U H d2 s m B X F N (1 + q.room % 6) [] ys up [(w8.heap.size, .nilFunc)] → Lc U q V.heap.size p1 p2 p3 (objL (sQ q n nc)) (coL (sQ q n nc)) (qX q n nc) ∧ Below V.heap.size V U) := Lib.hid fun U s ys up h => ⟨HL8.out.chg h.bel HBO.out HOW.out, HP8.out.trans (h.bel.below HVS.out HP8.out.size)⟩
  have HN11 := Lib.hid hn11
  have HL11 := Lib.hid (HLC.out _ _ _ _ hn11).1
  clear hn11 HRN HN9 HN8 HL8 HP8 HOW HBO HVS HKE HKL
  go_wp2_with (go_at_call 23; fail)
  refine (poured_any (coV (sQ q n nc)) 0 (qY q n nc).length (objL (sQ q n nc)) (qX q n nc) p1 p2 p3 c1 c2 c3 w11 HL11.out.r1 HL11.out.r2 HL11.out.r3 (by have := HLE.out; omega) (by have := HXL.out; omega) HIN2.out).mono ?_
  rintro e wb ⟨pf, cf, rfl, hrf, hbb⟩
  have HFR0 := Lib.hid hrf
  have HKP := Lib.hid (poK_le (coV (sQ q n nc)) 0 (qX q n nc) (qY q n nc).length)
  have HFL0 := Lib.hid (poR_le (coV (sQ q n nc)) 0 (qX q n nc) (qY q n nc).length)
  have HPUE := Lib.hid (pU_eq (Og.of HIS.out) (c := 0) (by rfl) HBN.out (qY q n nc))
  have HOK := Lib.hid (pT_ok (Og.of HIS.out) (c := 0) (by rfl) HBN.out (qY q n nc) (objL (sQ q n nc)) (fun a ha => (obj_mem HIS.out).1 ha))
  have HLB := Lib.hid (HL11.out.later hbb)
  have HNB0 := Lib.hid (HN11.out.later hbb)
  clear hrf hbb HL11 HN11
  generalize (poR (coV (sQ q n nc)) 0 (qX q n nc) (qY q n nc).length) = fr at *
  generalize (poK (coV (sQ q n nc)) 0 (qX q n nc) (qY q n nc).length) = kk at *
  obtain ⟨fl, hfl⟩ : ∃ fl, fr.length = fl := ⟨_, rfl⟩
  rw [hfl]
  have HFL := Lib.hid hfl
  clear hfl
  obtain ⟨bb, hbb⟩ : ∃ bb, decide (0 < fl) = bb := ⟨_, rfl⟩
  have HNB : Hid (Nb ⟨w8, own H d B X F⟩ wb H d2 (pT 0 (sQ q n nc) (qX q n nc) (qY q n nc)) m B X F N (1 + q.room % 6) [] (pY (qX q n nc) (qY q n nc)) (q.up || bb) [(w8.heap.size, .nilFunc)]) := Lib.hid (by
    have h := HNB0.out
    rw [HPUE.out, HFL.out, hbb] at h
    exact h)
  have hk8 : (kk : Int) ≤ 8 := by have := HKP.out; have := HXL.out; omega
  have hk0 : (0 : Int) ≤ (kk : Int) := by omega
  have hse : ((kk : Int) + 1 != (kk : Int) + 1) = false := by simp
  have hwr : IntKind.i64.wrap ((kk : Int) + 1) = (kk : Int) + 1 := by rw [IntKind.wrap_i64]; omega
  have HHW := Lib.hid hwr
  clear hwr
  obtain ⟨ub, hub0⟩ : ∃ ub, q.up = ub := ⟨_, rfl⟩
  have k11 := HLB.out.cs.2.2.2.2.2.2.2.2.2.2.2
  rw [hub0] at HNB k11 ⊢
  have HUB := Lib.hid hub0
  clear hub0 HPUE HNB0
  have HPY : Hid (pY (qX q n nc) (qY q n nc) = qX q n nc) := Lib.hid (by
    unfold pY
    have hy := HHY.out
    by_cases hx : qX q n nc = []
    · rw [if_pos hx, hy, hx]
    · rw [if_neg hx, if_pos hy])
  rw [HPY.out] at HNB
  obtain ⟨yl, hyl⟩ : ∃ yl, (qY q n nc).length = yl := ⟨_, rfl⟩
  rw [hyl]
  have HYL := Lib.hid hyl
  obtain rfl : yl = 0 := by rw [← hyl, HHY.out]; rfl
  clear hyl
  have HD0 : Hid (Below wb.heap.size wb wb) := Lib.hid (Below.refl _ _)
  have HD1 : Hid (Below wb.heap.size wb wb.drew) := Lib.hid (Below.refl _ _).drew
  have HDN : Hid (∀ n, Below wb.heap.size wb (wb.drewN n)) := Lib.hid fun n => below_drewN (Below.refl _ _) n
  have HLN : Hid (∀ U, Below wb.heap.size wb U → Calls Tryz.prog 28 #[.pointer (some ⟨B, 0, none⟩)] U fun e w' => e = .returned (.int .i64 0) ∧ Below U.heap.size U w') := Lib.hid fun U hU => (nb_len (HNB.out.later hU)).mono fun e w' h => ⟨h.1, by rw [h.2]; exact Below.refl _ _⟩
  have HGR : Hid (∀ d os, Below wb.heap.size wb (Sort.grow (redrawn wb d) os)) := Lib.hid fun d os => below_regrown wb d os
  have HUP := Lib.hid (fun U (hU : Below wb.heap.size wb U) => nb_up (HNB.out.later hU))
  have HPN := Lib.hid (fun U (hU : Below wb.heap.size wb U) => painted_any (coV (sQ q n nc)) 0 (objL (sQ q n nc)) fr p1 p2 pf c1 c2 cf U (HNB.out.later hU).is (HLB.out.r1.later hU) (HLB.out.r2.later hU) (HFR0.out.later hU) (by have := HLE.out; omega) (by have := HFL0.out; have := HXL.out; omega) HOK.out)
  rw [HFL.out] at HPN
  have HK : Hid (∀ U, Below wb.heap.size wb U → U.cell? ⟨V.heap.size, 11, none⟩ = some (.bool ub)) := Lib.hid fun U hU => by
    have h := (HLB.out.later hU).cs.2.2.2.2.2.2.2.2.2.2.2
    rw [HUB.out] at h
    exact h
  have hub : (bb != bb) = false := by simp
  have hbi : decide ((0 : Int) < (fl : Int)) = bb := by rw [← hbb]; simp
  go_wp2_with fail
  have hwr := HHW.out
  clear k11
  cases ub
  · rw [Bool.false_or] at HUP HNB
    have hk11 := HK.out _ HD0.out
    have hkg := cell_regrown hk11
    refine wp_region_quiet_below (by kernel_rfl) (by kernel_rfl) ?_
    repeat (go_big_quiet_step (first
      | (go_at_call 28; exact Calls.regrown_of (HLN.out _ (HGR.out _ _)))
      | (go_at_call 25; exact Calls.regrown_of (HUP.out _ (HGR.out _ _)))
      | (go_at_call 26; exact Calls.regrown_of (HPN.out _ (HGR.out _ _)))))
    refine wpQuiet_nil ?_
    intro wp hw'
    have HBP := Lib.hid (Addr.below_of_regrown hw')
    clear hw' hkg hk11 hwr
    have HNP := Lib.hid (HNB.out.later HBP.out)
    clear HLN HUP HPN HK HD0 HD1 hbi hub hbb
    go_wp2_with fail
    go_loopw [20] (fun i wr => ∃ j : Nat, j ≤ (qX q n nc).length ∧ i = .int .i64 j ∧ Nb ⟨w8, own H d B X F⟩ wr H d2 (pT 0 (sQ q n nc) (qX q n nc) (qY q n nc)) m B X F N (1 + q.room % 6) [] ((qX q n nc).drop j) bb [(w8.heap.size, .nilFunc)]) (fun i _ => (qX q n nc).length - (intOf i).toNat)
    case atStart => exact ⟨0, Nat.zero_le _, rfl, HNP.out⟩
    case round =>
      obtain ⟨j, hj, rfl, hnj⟩ := hrel
      have HNJ := Lib.hid hnj
      clear hnj HNP
      have j0 : (0 : Int) ≤ (j : Int) := by omega
      by_cases hlt : j < (qX q n nc).length
      · have j1 : (j : Int) < ((qX q n nc).length : Int) := by omega
        have j6 : (j : Int) ≤ 6 := by have := HXL.out; omega
        have hdr : (qX q n nc).drop j = (qX q n nc).getD j 0 :: (qX q n nc).drop (j + 1) := by
          rw [List.drop_eq_getElem_cons hlt, List.getD_eq_getElem?_getD, List.getElem?_eq_getElem hlt]; rfl
        rw [hdr] at HNJ
        have HBX := Lib.hid (nb_bnext HNJ.out)
        clear hdr HNJ
        generalize hyv : (qX q n nc).getD j 0 = yv at *
        have HYV := Lib.hid hyv
        clear hyv
        generalize hxn : (qX q n nc).length = xn at *
        have HXN := Lib.hid hxn
        clear hxn
        go_wp2_with (go_at_call 29; fail)
        refine HBX.out.mono ?_
        rintro e wj ⟨rfl, hnj2⟩
        have HNJ2 := Lib.hid hnj2
        obtain ⟨g3, off3, hp3, c3v⟩ := (HLC.out _ _ _ _ hnj2).1.r3.at (j := j) (by rw [HXN.out]; exact hlt)
        rw [HYV.out] at c3v
        subst hp3
        have hyy : (yv != yv) = false := by simp
        clear hnj2
        go_wp2_with fail
        go_roundw
        case rel => exact ⟨j + 1, by omega, by go_num, HNJ2.out⟩
        case measure => simp [intOf]; omega
      · obtain rfl : j = (qX q n nc).length := by omega
        have hdr : (qX q n nc).drop (qX q n nc).length = [] := List.drop_length
        rw [hdr] at HNJ
        have HBL : Hid (Calls Tryz.prog 17 #[.pointer (some ⟨X, 0, none⟩)] wr fun e w' => e = .returned (.int .i64 0) ∧ Below wr.heap.size wr w') := Lib.hid (nb_blen HNJ.out)
        have HBV2 := Lib.hid (HLC.out _ _ _ _ HNJ.out).2
        clear hdr HNJ
        generalize (qX q n nc).length = xn at *
        go_wp2_with (go_at_call 17; fail)
        refine HBL.out.mono ?_
        rintro e wz ⟨rfl, hbz⟩
        have HBZ : Hid (Below V.heap.size V wz) := Lib.hid (HBV2.out.trans (hbz.mono HBV2.out.size))
        clear hbz
        go_wp2_with fail
        go_ret
        exact ⟨rfl, HBZ.out⟩
  · rw [Bool.true_or] at HUP HNB
    have hk11 := HK.out _ HD0.out
    have hkg := cell_regrown hk11
    refine wp_region_quiet_below (by kernel_rfl) (by kernel_rfl) ?_
    repeat (go_big_quiet_step (first
      | (go_at_call 28; exact Calls.regrown_of (HLN.out _ (HGR.out _ _)))
      | (go_at_call 25; exact Calls.regrown_of (HUP.out _ (HGR.out _ _)))
      | (go_at_call 26; exact Calls.regrown_of (HPN.out _ (HGR.out _ _)))))
    refine wpQuiet_nil ?_
    intro wp hw'
    have HBP := Lib.hid (Addr.below_of_regrown hw')
    clear hw' hkg hk11 hwr
    have HNP := Lib.hid (HNB.out.later HBP.out)
    clear HLN HUP HPN HK HD0 HD1 hbi hub hbb
    go_wp2_with fail
    go_loopw [20] (fun i wr => ∃ j : Nat, j ≤ (qX q n nc).length ∧ i = .int .i64 j ∧ Nb ⟨w8, own H d B X F⟩ wr H d2 (pT 0 (sQ q n nc) (qX q n nc) (qY q n nc)) m B X F N (1 + q.room % 6) [] ((qX q n nc).drop j) true [(w8.heap.size, .nilFunc)]) (fun i _ => (qX q n nc).length - (intOf i).toNat)
    case atStart => exact ⟨0, Nat.zero_le _, rfl, HNP.out⟩
    case round =>
      obtain ⟨j, hj, rfl, hnj⟩ := hrel
      have HNJ := Lib.hid hnj
      clear hnj HNP
      have j0 : (0 : Int) ≤ (j : Int) := by omega
      by_cases hlt : j < (qX q n nc).length
      · have j1 : (j : Int) < ((qX q n nc).length : Int) := by omega
        have j6 : (j : Int) ≤ 6 := by have := HXL.out; omega
        have hdr : (qX q n nc).drop j = (qX q n nc).getD j 0 :: (qX q n nc).drop (j + 1) := by
          rw [List.drop_eq_getElem_cons hlt, List.getD_eq_getElem?_getD, List.getElem?_eq_getElem hlt]; rfl
        rw [hdr] at HNJ
        have HBX := Lib.hid (nb_bnext HNJ.out)
        clear hdr HNJ
        generalize hyv : (qX q n nc).getD j 0 = yv at *
        have HYV := Lib.hid hyv
        clear hyv
        generalize hxn : (qX q n nc).length = xn at *
        have HXN := Lib.hid hxn
        clear hxn
        go_wp2_with (go_at_call 29; fail)
        refine HBX.out.mono ?_
        rintro e wj ⟨rfl, hnj2⟩
        have HNJ2 := Lib.hid hnj2
        obtain ⟨g3, off3, hp3, c3v⟩ := (HLC.out _ _ _ _ hnj2).1.r3.at (j := j) (by rw [HXN.out]; exact hlt)
        rw [HYV.out] at c3v
        subst hp3
        have hyy : (yv != yv) = false := by simp
        clear hnj2
        go_wp2_with fail
        go_roundw
        case rel => exact ⟨j + 1, by omega, by go_num, HNJ2.out⟩
        case measure => simp [intOf]; omega
      · obtain rfl : j = (qX q n nc).length := by omega
        have hdr : (qX q n nc).drop (qX q n nc).length = [] := List.drop_length
        rw [hdr] at HNJ
        have HBL : Hid (Calls Tryz.prog 17 #[.pointer (some ⟨X, 0, none⟩)] wr fun e w' => e = .returned (.int .i64 0) ∧ Below wr.heap.size wr w') := Lib.hid (nb_blen HNJ.out)
        have HBV2 := Lib.hid (HLC.out _ _ _ _ HNJ.out).2
        clear hdr HNJ
        generalize (qX q n nc).length = xn at *
        go_wp2_with (go_at_call 17; fail)
        refine HBL.out.mono ?_
        rintro e wz ⟨rfl, hbz⟩
        have HBZ : Hid (Below V.heap.size V wz) := Lib.hid (HBV2.out.trans (hbz.mono HBV2.out.size))
        clear hbz
        go_wp2_with fail
        go_ret
        exact ⟨rfl, HBZ.out⟩

set_option maxRecDepth 200000 in
set_option maxHeartbeats 8000000 in
theorem pours_B1 (q : Cs)  (n nc S : Nat) (V : World) (hp : Pre q n nc S V) (hgb : gB q = false) (hy : qY q n nc = []) :
    Calls Tryz.prog 4 #[(.agg #[.int .i64 q.c.b, .int .i64 q.c.wd, .int .i64 q.c.m, .int .i64 q.c.r, .int .i64 q.c.ce, .int .i64 q.c.lg, .int .i64 q.c.st, .slice q.pt q.l.length q.ct, .slice q.pb q.bl.length q.cb, .slice q.px q.xl.length q.cx, .int .u8 q.room, .bool q.up]), .bool true] V fun e w' => e = .returned (.bool true) ∧ Below V.heap.size V w' := by
  have HPR := Lib.hid hp
  have HHY := Lib.hid hy
  clear hy
  have HGR : Hid (∀ W, Calls Tryz.prog 11 #[(.agg #[.int .i64 q.c.b, .int .i64 q.c.wd, .int .i64 q.c.m, .int .i64 q.c.r, .int .i64 q.c.ce, .int .i64 q.c.lg, .int .i64 q.c.st, .slice q.pt q.l.length q.ct, .slice q.pb q.bl.length q.cb, .slice q.px q.xl.length q.cx, .int .u8 q.room, .bool q.up])] W fun e w' => e = .returned (.bool false) ∧ Below W.heap.size W w') := Lib.hid fun W => by
    have h := great_any q W
    rw [hgb] at h
    exact h
  obtain ⟨V1, hV1⟩ : ∃ V1, V.alloc (.cells #[.int .i64 q.c.b, .int .i64 q.c.wd, .int .i64 q.c.m, .int .i64 q.c.r, .int .i64 q.c.ce, .int .i64 q.c.lg, .int .i64 q.c.st, .slice q.pt q.l.length q.ct, .slice q.pb q.bl.length q.cb, .slice q.px q.xl.length q.cx, .int .u8 q.room, .bool q.up] 27) = V1 := ⟨_, rfl⟩
  have HC1 : Hid (CaseAt q V1 V.heap.size) := Lib.hid (hV1 ▸ CaseAt.new q V)
  have HB1 : Hid (Below V.heap.size V V1) := Lib.hid (by rw [← hV1]; exact (Below.refl _ _).alloc (Nat.le_refl _) _)
  have HBV : Hid (∀ U, Below V1.heap.size V1 U → Below V.heap.size V U) := Lib.hid fun U hU => HB1.out.trans (hU.mono HB1.out.size)
  clear hp hgb
  obtain ⟨k0, k1, k2, k3, k4, k5, k6, k7, k8, k9, k10, k11⟩ := HC1.out
  go_enter Tryz.func4, Tryz.ntmps4
  go_wp2_with fail
  refine (HGR.out _).mono ?_
  rintro e w2 ⟨rfl, hb2⟩
  have HP2 : Hid (Below V1.heap.size V1 w2) := Lib.hid hb2
  clear hb2 HGR k0 k1 k2 k3 k4 k5 k6 k7 k8 k9 k10 k11
  go_wp2_with (go_at_call 12; fail)
  refine (awake_any _ (HPR.out.ht.later (HBV.out _ HP2.out))).mono ?_
  rintro e w3 ⟨rfl, hb3⟩
  have HP3 : Hid (Below V1.heap.size V1 w3) := Lib.hid (HP2.out.trans (hb3.mono HP2.out.size))
  clear hb3 HP2
  obtain ⟨k0, k1, k2, k3, k4, k5, k6, k7, k8, k9, k10, k11⟩ := HC1.out.later HP3.out
  go_wp2_with (go_at_call 13; fail)
  refine ((HPR.out.later (HBV.out _ HP3.out)).parts).mono ?_
  rintro e w4 ⟨H, B, X, F, d, m, rfl, hp, hm, hsm⟩
  have HPB := Lib.hid hp
  have HLE : Hid ((objL (sQ q n nc)).length ≤ 1000) := Lib.hid (obj_le hsm)
  have HP4 : Hid (Below V1.heap.size V1 w4) := Lib.hid (HP3.out.trans (hp.bel.mono HP3.out.size))
  clear hp hm hsm k0 k1 k2 k3 k4 k5 k6 k7 k8 k9 k10 k11
  go_wp2_with (go_at_call 14; fail)
  refine (new_any HPB.out).mono ?_
  rintro e w5 ⟨rfl, hn5⟩
  generalize w4.heap.size = N at *
  have HP5 : Hid (Below V1.heap.size V1 w5) := Lib.hid (HP3.out.trans ((hn5.bel.below (fun _ e => e.elim) (Nat.le_refl _)).mono HP3.out.size))
  have HN5 := Lib.hid hn5
  have HGE : Hid (∀ k, own H d B X F k → V.heap.size < k) := Lib.hid fun k hk => by
    have h1 := HPB.out.ge k hk
    have h2 := HP3.out.size
    have h3 := HC1.out.lt
    omega
  clear hn5 HPB
  go_wp2_with (go_at_call 15; fail)
  refine (colors_any w5 HN5.out.is (HPR.out.ht.later (HBV.out _ HP5.out)) (by have := HLE.out; omega)).mono ?_
  rintro e w6 ⟨p1, c1, p2, c2, rfl, hr1, hr2, hb6, hg6⟩
  have HR1 := Lib.hid hr1
  have HR2 := Lib.hid hr2
  have HG6 : Hid (∀ g, rowB p1 g ∨ rowB p2 g → ¬ own H d B X F g) := Lib.hid fun g hg hk => by
    have h1 := hg6 g hg
    have h2 := HN5.out.lt hk
    omega
  have HN6 := Lib.hid (HN5.out.later hb6)
  have HP6 : Hid (Below V1.heap.size V1 w6) := Lib.hid (HP5.out.trans (hb6.mono HP5.out.size))
  clear hr1 hr2 hb6 hg6 HN5
  have HCL : Hid ((coL (sQ q n nc)).length = (objL (sQ q n nc)).length) := Lib.hid (by simp [coL])
  go_wp2_with (go_at_call 16; fail)
  refine (nb_all HN6.out).mono ?_
  rintro e w7 ⟨p3, c3, rfl, hr3, hb7, hg3⟩
  have HR3 := Lib.hid hr3
  have HX7 : Hid (Below w6.heap.size w6 w7) := Lib.hid hb7
  have HG3 : Hid (∀ g, rowB p3 g → w6.heap.size ≤ g) := Lib.hid hg3
  clear hr3 hb7 hg3
  go_wp2_with (go_at_call 17; fail)
  refine (nb_blen (HN6.out.later HX7.out)).mono ?_
  rintro e w8 ⟨rfl, hb8⟩
  have HX8 : Hid (Below w6.heap.size w6 w8) := Lib.hid (HX7.out.trans (hb8.mono HX7.out.size))
  have HY8 : Hid (Below w7.heap.size w7 w8) := Lib.hid hb8
  clear hb8
  have HN8 := Lib.hid ((HN6.out.later HX8.out).rebase (HPR.out.ht.later (HBV.out _ (HP6.out.trans (HX8.out.mono HP6.out.size)))))
  have HP8 : Hid (Below V.heap.size V w8) := Lib.hid (HBV.out _ (HP6.out.trans (HX8.out.mono HP6.out.size)))
  have HL8 : Hid (Lc w8 q V.heap.size p1 p2 p3 (objL (sQ q n nc)) (coL (sQ q n nc)) (qX q n nc)) := Lib.hid ⟨HR1.out.later HX8.out, HR2.out.later HX8.out, HR3.out.later HY8.out, HC1.out.later (HP6.out.trans (HX8.out.mono HP6.out.size))⟩
  have HOW : Hid (∀ g, (rowB p1 g ∨ rowB p2 g ∨ rowB p3 g) → ¬ own H d B X F g) := Lib.hid fun g hg hk => by
    rcases hg with hg | hg | hg
    · exact HG6.out g (.inl hg) hk
    · exact HG6.out g (.inr hg) hk
    · have h1 := HG3.out g hg
      have h2 := HN6.out.lt hk
      omega
  have HBO : Hid (¬ own H d B X F V.heap.size) := Lib.hid fun e => by have := HGE.out _ e; omega
  have HVS : Hid (∀ k, own H d B X F k → V.heap.size ≤ k) := Lib.hid fun k e => by have := HGE.out _ e; omega
  clear HR1 HR2 HR3 HG3 HG6 HN6 HX7 HX8 HY8 HP6 HP5 HP4 HC1 HB1 HBV HGE
  have hqx : addsL (1 + q.room % 6) (objL (sQ q n nc)) q.bl = qX q n nc := rfl
  have hqy : addsL 256 (objL (sQ q n nc)) q.xl = qY q n nc := rfl
  rw [hqx, hqy] at *
  clear hqx hqy
  have his := HN8.out.is
  have hin2 : ∀ a ∈ (qX q n nc), a ∈ objL (sQ q n nc) := fun a ha => addsL_mem ha
  have hbn : ∀ a ∈ (qX q n nc), bnI (sQ q n nc) a = true := fun a ha => (obj_mem his).1 (hin2 a ha)
  have HIN2 := Lib.hid hin2
  have HBN := Lib.hid hbn
  have HIS := Lib.hid his
  have HXL : Hid ((qX q n nc).length ≤ 6) := Lib.hid (by
    have := addsL_len (r := (1 + q.room % 6)) (al := objL (sQ q n nc)) (zs := q.bl)
    unfold qX
    omega)
  have HKE : Hid (pK 1 (sQ q n nc) (qX q n nc) (qY q n nc) = poK (coV (sQ q n nc)) 1 (qX q n nc) (qY q n nc).length) := Lib.hid (pK_eq (Og.of his) (by rfl) hbn (qY q n nc))
  have HKL : Hid (poK (coV (sQ q n nc)) 1 (qX q n nc) (qY q n nc).length + 1 ≤ 1000) := Lib.hid (by have := poK_le (coV (sQ q n nc)) 1 (qX q n nc) (qY q n nc).length; have := HXL.out; omega)
  clear his hin2 hbn
  go_wp2_with (go_at_call 20; fail)
  refine (once_any _).mono ?_
  rintro e w9 ⟨rfl, hw9⟩
  have HN9 : Hid (Nb ⟨w8, own H d B X F⟩ w9 H d (sQ q n nc) m B X F N (1 + q.room % 6) (qX q n nc) (qY q n nc) q.up [(w8.heap.size, .nilFunc)]) := Lib.hid (by
    rw [hw9]
    exact (HN8.out.later ((Below.refl _ _).alloc (Nat.le_refl _) _)).box (World.cell?_alloc_new ..) (HN8.out.not_new (Nat.le_refl _)))
  clear hw9
  have HNO := Lib.hid (pour_any 1 1 ⟨fun _ => True, fun U => ∃ d', Nb ⟨w8, own H d B X F⟩ U H d' (pT 1 (sQ q n nc) (qX q n nc) (qY q n nc)) m B X F N (1 + q.room % 6) [] (pY (qX q n nc) (qY q n nc)) (q.up || pU 1 (sQ q n nc) (qX q n nc) (qY q n nc)) [(w8.heap.size, .nilFunc)]⟩ (fun _ _ _ _ _ _ _ => trivial) (.func (.func 76) #[] #[.pointer (some ⟨w8.heap.size, 0, none⟩)]) (.inr ⟨_, _, rfl⟩) (qX q n nc) (qY q n nc) d (sQ q n nc) q.up [(w8.heap.size, .nilFunc)] w9 HN9.out (fun U d' h => does_once _ w8.heap.size U (h.at (by simp)) trivial ⟨d', h⟩))
  rw [HKE.out] at HNO
  go_wp2_with (go_at_call 27; fail)
  refine HNO.out.mono ?_
  rintro e w10 ⟨u, rfl, hd⟩
  have HRN := Lib.hid (run_any _ _ 1000 u w10 hd HKL.out (by decide))
  clear hd HNO
  go_wp2_with (go_at_call 18; fail)
  refine HRN.out.mono ?_
  rintro e w11 ⟨rfl, d2, hn11⟩
  have HLC : Hid (∀ U s ys up, Nb ⟨w8, own H d B X F⟩ U H d2 s m B X F N (1 + q.room % 6) [] ys up [(w8.heap.size, .nilFunc)] → Lc U q V.heap.size p1 p2 p3 (objL (sQ q n nc)) (coL (sQ q n nc)) (qX q n nc) ∧ Below V.heap.size V U) := Lib.hid fun U s ys up h => ⟨HL8.out.chg h.bel HBO.out HOW.out, HP8.out.trans (h.bel.below HVS.out HP8.out.size)⟩
  have HN11 := Lib.hid hn11
  have HL11 := Lib.hid (HLC.out _ _ _ _ hn11).1
  clear hn11 HRN HN9 HN8 HL8 HP8 HOW HBO HVS HKE HKL
  go_wp2_with (go_at_call 23; fail)
  refine (poured_any (coV (sQ q n nc)) 1 (qY q n nc).length (objL (sQ q n nc)) (qX q n nc) p1 p2 p3 c1 c2 c3 w11 HL11.out.r1 HL11.out.r2 HL11.out.r3 (by have := HLE.out; omega) (by have := HXL.out; omega) HIN2.out).mono ?_
  rintro e wb ⟨pf, cf, rfl, hrf, hbb⟩
  have HFR0 := Lib.hid hrf
  have HKP := Lib.hid (poK_le (coV (sQ q n nc)) 1 (qX q n nc) (qY q n nc).length)
  have HFL0 := Lib.hid (poR_le (coV (sQ q n nc)) 1 (qX q n nc) (qY q n nc).length)
  have HPUE := Lib.hid (pU_eq (Og.of HIS.out) (c := 1) (by rfl) HBN.out (qY q n nc))
  have HOK := Lib.hid (pT_ok (Og.of HIS.out) (c := 1) (by rfl) HBN.out (qY q n nc) (objL (sQ q n nc)) (fun a ha => (obj_mem HIS.out).1 ha))
  have HLB := Lib.hid (HL11.out.later hbb)
  have HNB0 := Lib.hid (HN11.out.later hbb)
  clear hrf hbb HL11 HN11
  generalize (poR (coV (sQ q n nc)) 1 (qX q n nc) (qY q n nc).length) = fr at *
  generalize (poK (coV (sQ q n nc)) 1 (qX q n nc) (qY q n nc).length) = kk at *
  obtain ⟨fl, hfl⟩ : ∃ fl, fr.length = fl := ⟨_, rfl⟩
  rw [hfl]
  have HFL := Lib.hid hfl
  clear hfl
  obtain ⟨bb, hbb⟩ : ∃ bb, decide (0 < fl) = bb := ⟨_, rfl⟩
  have HNB : Hid (Nb ⟨w8, own H d B X F⟩ wb H d2 (pT 1 (sQ q n nc) (qX q n nc) (qY q n nc)) m B X F N (1 + q.room % 6) [] (pY (qX q n nc) (qY q n nc)) (q.up || bb) [(w8.heap.size, .nilFunc)]) := Lib.hid (by
    have h := HNB0.out
    rw [HPUE.out, HFL.out, hbb] at h
    exact h)
  have hk8 : (kk : Int) ≤ 8 := by have := HKP.out; have := HXL.out; omega
  have hk0 : (0 : Int) ≤ (kk : Int) := by omega
  have hse : ((kk : Int) + 1 != (kk : Int) + 1) = false := by simp
  have hwr : IntKind.i64.wrap ((kk : Int) + 1) = (kk : Int) + 1 := by rw [IntKind.wrap_i64]; omega
  have HHW := Lib.hid hwr
  clear hwr
  obtain ⟨ub, hub0⟩ : ∃ ub, q.up = ub := ⟨_, rfl⟩
  have k11 := HLB.out.cs.2.2.2.2.2.2.2.2.2.2.2
  rw [hub0] at HNB k11 ⊢
  have HUB := Lib.hid hub0
  clear hub0 HPUE HNB0
  have HPY : Hid (pY (qX q n nc) (qY q n nc) = qX q n nc) := Lib.hid (by
    unfold pY
    have hy := HHY.out
    by_cases hx : qX q n nc = []
    · rw [if_pos hx, hy, hx]
    · rw [if_neg hx, if_pos hy])
  rw [HPY.out] at HNB
  obtain ⟨yl, hyl⟩ : ∃ yl, (qY q n nc).length = yl := ⟨_, rfl⟩
  rw [hyl]
  have HYL := Lib.hid hyl
  obtain rfl : yl = 0 := by rw [← hyl, HHY.out]; rfl
  clear hyl
  have HD0 : Hid (Below wb.heap.size wb wb) := Lib.hid (Below.refl _ _)
  have HD1 : Hid (Below wb.heap.size wb wb.drew) := Lib.hid (Below.refl _ _).drew
  have HDN : Hid (∀ n, Below wb.heap.size wb (wb.drewN n)) := Lib.hid fun n => below_drewN (Below.refl _ _) n
  have HLN : Hid (∀ U, Below wb.heap.size wb U → Calls Tryz.prog 28 #[.pointer (some ⟨B, 0, none⟩)] U fun e w' => e = .returned (.int .i64 0) ∧ Below U.heap.size U w') := Lib.hid fun U hU => (nb_len (HNB.out.later hU)).mono fun e w' h => ⟨h.1, by rw [h.2]; exact Below.refl _ _⟩
  have HGR : Hid (∀ d os, Below wb.heap.size wb (Sort.grow (redrawn wb d) os)) := Lib.hid fun d os => below_regrown wb d os
  have HUP := Lib.hid (fun U (hU : Below wb.heap.size wb U) => nb_up (HNB.out.later hU))
  have HPN := Lib.hid (fun U (hU : Below wb.heap.size wb U) => painted_any (coV (sQ q n nc)) 1 (objL (sQ q n nc)) fr p1 p2 pf c1 c2 cf U (HNB.out.later hU).is (HLB.out.r1.later hU) (HLB.out.r2.later hU) (HFR0.out.later hU) (by have := HLE.out; omega) (by have := HFL0.out; have := HXL.out; omega) HOK.out)
  rw [HFL.out] at HPN
  have HK : Hid (∀ U, Below wb.heap.size wb U → U.cell? ⟨V.heap.size, 11, none⟩ = some (.bool ub)) := Lib.hid fun U hU => by
    have h := (HLB.out.later hU).cs.2.2.2.2.2.2.2.2.2.2.2
    rw [HUB.out] at h
    exact h
  have hub : (bb != bb) = false := by simp
  have hbi : decide ((0 : Int) < (fl : Int)) = bb := by rw [← hbb]; simp
  go_wp2_with fail
  have hwr := HHW.out
  clear k11
  cases ub
  · rw [Bool.false_or] at HUP HNB
    have hk11 := HK.out _ HD0.out
    have hkg := cell_regrown hk11
    refine wp_region_quiet_below (by kernel_rfl) (by kernel_rfl) ?_
    repeat (go_big_quiet_step (first
      | (go_at_call 28; exact Calls.regrown_of (HLN.out _ (HGR.out _ _)))
      | (go_at_call 25; exact Calls.regrown_of (HUP.out _ (HGR.out _ _)))
      | (go_at_call 26; exact Calls.regrown_of (HPN.out _ (HGR.out _ _)))))
    refine wpQuiet_nil ?_
    intro wp hw'
    have HBP := Lib.hid (Addr.below_of_regrown hw')
    clear hw' hkg hk11 hwr
    have HNP := Lib.hid (HNB.out.later HBP.out)
    clear HLN HUP HPN HK HD0 HD1 hbi hub hbb
    go_wp2_with fail
    go_loopw [20] (fun i wr => ∃ j : Nat, j ≤ (qX q n nc).length ∧ i = .int .i64 j ∧ Nb ⟨w8, own H d B X F⟩ wr H d2 (pT 1 (sQ q n nc) (qX q n nc) (qY q n nc)) m B X F N (1 + q.room % 6) [] ((qX q n nc).drop j) bb [(w8.heap.size, .nilFunc)]) (fun i _ => (qX q n nc).length - (intOf i).toNat)
    case atStart => exact ⟨0, Nat.zero_le _, rfl, HNP.out⟩
    case round =>
      obtain ⟨j, hj, rfl, hnj⟩ := hrel
      have HNJ := Lib.hid hnj
      clear hnj HNP
      have j0 : (0 : Int) ≤ (j : Int) := by omega
      by_cases hlt : j < (qX q n nc).length
      · have j1 : (j : Int) < ((qX q n nc).length : Int) := by omega
        have j6 : (j : Int) ≤ 6 := by have := HXL.out; omega
        have hdr : (qX q n nc).drop j = (qX q n nc).getD j 0 :: (qX q n nc).drop (j + 1) := by
          rw [List.drop_eq_getElem_cons hlt, List.getD_eq_getElem?_getD, List.getElem?_eq_getElem hlt]; rfl
        rw [hdr] at HNJ
        have HBX := Lib.hid (nb_bnext HNJ.out)
        clear hdr HNJ
        generalize hyv : (qX q n nc).getD j 0 = yv at *
        have HYV := Lib.hid hyv
        clear hyv
        generalize hxn : (qX q n nc).length = xn at *
        have HXN := Lib.hid hxn
        clear hxn
        go_wp2_with (go_at_call 29; fail)
        refine HBX.out.mono ?_
        rintro e wj ⟨rfl, hnj2⟩
        have HNJ2 := Lib.hid hnj2
        obtain ⟨g3, off3, hp3, c3v⟩ := (HLC.out _ _ _ _ hnj2).1.r3.at (j := j) (by rw [HXN.out]; exact hlt)
        rw [HYV.out] at c3v
        subst hp3
        have hyy : (yv != yv) = false := by simp
        clear hnj2
        go_wp2_with fail
        go_roundw
        case rel => exact ⟨j + 1, by omega, by go_num, HNJ2.out⟩
        case measure => simp [intOf]; omega
      · obtain rfl : j = (qX q n nc).length := by omega
        have hdr : (qX q n nc).drop (qX q n nc).length = [] := List.drop_length
        rw [hdr] at HNJ
        have HBL : Hid (Calls Tryz.prog 17 #[.pointer (some ⟨X, 0, none⟩)] wr fun e w' => e = .returned (.int .i64 0) ∧ Below wr.heap.size wr w') := Lib.hid (nb_blen HNJ.out)
        have HBV2 := Lib.hid (HLC.out _ _ _ _ HNJ.out).2
        clear hdr HNJ
        generalize (qX q n nc).length = xn at *
        go_wp2_with (go_at_call 17; fail)
        refine HBL.out.mono ?_
        rintro e wz ⟨rfl, hbz⟩
        have HBZ : Hid (Below V.heap.size V wz) := Lib.hid (HBV2.out.trans (hbz.mono HBV2.out.size))
        clear hbz
        go_wp2_with fail
        go_ret
        exact ⟨rfl, HBZ.out⟩
  · rw [Bool.true_or] at HUP HNB
    have hk11 := HK.out _ HD0.out
    have hkg := cell_regrown hk11
    refine wp_region_quiet_below (by kernel_rfl) (by kernel_rfl) ?_
    repeat (go_big_quiet_step (first
      | (go_at_call 28; exact Calls.regrown_of (HLN.out _ (HGR.out _ _)))
      | (go_at_call 25; exact Calls.regrown_of (HUP.out _ (HGR.out _ _)))
      | (go_at_call 26; exact Calls.regrown_of (HPN.out _ (HGR.out _ _)))))
    refine wpQuiet_nil ?_
    intro wp hw'
    have HBP := Lib.hid (Addr.below_of_regrown hw')
    clear hw' hkg hk11 hwr
    have HNP := Lib.hid (HNB.out.later HBP.out)
    clear HLN HUP HPN HK HD0 HD1 hbi hub hbb
    go_wp2_with fail
    go_loopw [20] (fun i wr => ∃ j : Nat, j ≤ (qX q n nc).length ∧ i = .int .i64 j ∧ Nb ⟨w8, own H d B X F⟩ wr H d2 (pT 1 (sQ q n nc) (qX q n nc) (qY q n nc)) m B X F N (1 + q.room % 6) [] ((qX q n nc).drop j) true [(w8.heap.size, .nilFunc)]) (fun i _ => (qX q n nc).length - (intOf i).toNat)
    case atStart => exact ⟨0, Nat.zero_le _, rfl, HNP.out⟩
    case round =>
      obtain ⟨j, hj, rfl, hnj⟩ := hrel
      have HNJ := Lib.hid hnj
      clear hnj HNP
      have j0 : (0 : Int) ≤ (j : Int) := by omega
      by_cases hlt : j < (qX q n nc).length
      · have j1 : (j : Int) < ((qX q n nc).length : Int) := by omega
        have j6 : (j : Int) ≤ 6 := by have := HXL.out; omega
        have hdr : (qX q n nc).drop j = (qX q n nc).getD j 0 :: (qX q n nc).drop (j + 1) := by
          rw [List.drop_eq_getElem_cons hlt, List.getD_eq_getElem?_getD, List.getElem?_eq_getElem hlt]; rfl
        rw [hdr] at HNJ
        have HBX := Lib.hid (nb_bnext HNJ.out)
        clear hdr HNJ
        generalize hyv : (qX q n nc).getD j 0 = yv at *
        have HYV := Lib.hid hyv
        clear hyv
        generalize hxn : (qX q n nc).length = xn at *
        have HXN := Lib.hid hxn
        clear hxn
        go_wp2_with (go_at_call 29; fail)
        refine HBX.out.mono ?_
        rintro e wj ⟨rfl, hnj2⟩
        have HNJ2 := Lib.hid hnj2
        obtain ⟨g3, off3, hp3, c3v⟩ := (HLC.out _ _ _ _ hnj2).1.r3.at (j := j) (by rw [HXN.out]; exact hlt)
        rw [HYV.out] at c3v
        subst hp3
        have hyy : (yv != yv) = false := by simp
        clear hnj2
        go_wp2_with fail
        go_roundw
        case rel => exact ⟨j + 1, by omega, by go_num, HNJ2.out⟩
        case measure => simp [intOf]; omega
      · obtain rfl : j = (qX q n nc).length := by omega
        have hdr : (qX q n nc).drop (qX q n nc).length = [] := List.drop_length
        rw [hdr] at HNJ
        have HBL : Hid (Calls Tryz.prog 17 #[.pointer (some ⟨X, 0, none⟩)] wr fun e w' => e = .returned (.int .i64 0) ∧ Below wr.heap.size wr w') := Lib.hid (nb_blen HNJ.out)
        have HBV2 := Lib.hid (HLC.out _ _ _ _ HNJ.out).2
        clear hdr HNJ
        generalize (qX q n nc).length = xn at *
        go_wp2_with (go_at_call 17; fail)
        refine HBL.out.mono ?_
        rintro e wz ⟨rfl, hbz⟩
        have HBZ : Hid (Below V.heap.size V wz) := Lib.hid (HBV2.out.trans (hbz.mono HBV2.out.size))
        clear hbz
        go_wp2_with fail
        go_ret
        exact ⟨rfl, HBZ.out⟩
set_option maxRecDepth 200000 in
set_option maxHeartbeats 8000000 in
theorem pours_great (q : Cs) (white : Bool) (n nc S : Nat) (V : World) (hp : Pre q n nc S V) (hgb : gB q = true)  :
    Calls Tryz.prog 4 #[(.agg #[.int .i64 q.c.b, .int .i64 q.c.wd, .int .i64 q.c.m, .int .i64 q.c.r, .int .i64 q.c.ce, .int .i64 q.c.lg, .int .i64 q.c.st, .slice q.pt q.l.length q.ct, .slice q.pb q.bl.length q.cb, .slice q.px q.xl.length q.cx, .int .u8 q.room, .bool q.up]), .bool white] V fun e w' => e = .returned (.bool true) ∧ Below V.heap.size V w' := by
  have HPR := Lib.hid hp
  have HGR : Hid (∀ W, Calls Tryz.prog 11 #[(.agg #[.int .i64 q.c.b, .int .i64 q.c.wd, .int .i64 q.c.m, .int .i64 q.c.r, .int .i64 q.c.ce, .int .i64 q.c.lg, .int .i64 q.c.st, .slice q.pt q.l.length q.ct, .slice q.pb q.bl.length q.cb, .slice q.px q.xl.length q.cx, .int .u8 q.room, .bool q.up])] W fun e w' => e = .returned (.bool true) ∧ Below W.heap.size W w') := Lib.hid fun W => by
    have h := great_any q W
    rw [hgb] at h
    exact h
  obtain ⟨V1, hV1⟩ : ∃ V1, V.alloc (.cells #[.int .i64 q.c.b, .int .i64 q.c.wd, .int .i64 q.c.m, .int .i64 q.c.r, .int .i64 q.c.ce, .int .i64 q.c.lg, .int .i64 q.c.st, .slice q.pt q.l.length q.ct, .slice q.pb q.bl.length q.cb, .slice q.px q.xl.length q.cx, .int .u8 q.room, .bool q.up] 27) = V1 := ⟨_, rfl⟩
  have HC1 : Hid (CaseAt q V1 V.heap.size) := Lib.hid (hV1 ▸ CaseAt.new q V)
  have HB1 : Hid (Below V.heap.size V V1) := Lib.hid (by rw [← hV1]; exact (Below.refl _ _).alloc (Nat.le_refl _) _)
  have HBV : Hid (∀ U, Below V1.heap.size V1 U → Below V.heap.size V U) := Lib.hid fun U hU => HB1.out.trans (hU.mono HB1.out.size)
  clear hp hgb
  obtain ⟨k0, k1, k2, k3, k4, k5, k6, k7, k8, k9, k10, k11⟩ := HC1.out
  go_enter Tryz.func4, Tryz.ntmps4
  go_wp2_with fail
  refine (HGR.out _).mono ?_
  rintro e w2 ⟨rfl, hb2⟩
  have HP2 : Hid (Below V1.heap.size V1 w2) := Lib.hid hb2
  clear hb2 HGR k0 k1 k2 k3 k4 k5 k6 k7 k8 k9 k10 k11
  go_wp2_with (go_at_call 12; fail)
  refine (awake_any _ (HPR.out.ht.later (HBV.out _ HP2.out))).mono ?_
  rintro e w3 ⟨rfl, hb3⟩
  have HP3 : Hid (Below V.heap.size V w3) := Lib.hid (HBV.out _ (HP2.out.trans (hb3.mono HP2.out.size)))
  clear hb3
  go_wp2_with fail
  go_ret
  exact ⟨rfl, HP3.out⟩
theorem pours_walk (q : Cs) (white : Bool) (V : World) (ht : Tabs V) (hq : CsP V.heap.size V q) :
    Calls Tryz.prog 4 #[(.agg #[.int .i64 q.c.b, .int .i64 q.c.wd, .int .i64 q.c.m, .int .i64 q.c.r, .int .i64 q.c.ce, .int .i64 q.c.lg, .int .i64 q.c.st, .slice q.pt q.l.length q.ct, .slice q.pb q.bl.length q.cb, .slice q.px q.xl.length q.cx, .int .u8 q.room, .bool q.up]), .bool white] V fun e w' => e = .returned (.bool true) ∧ Below V.heap.size V w' := by
  obtain ⟨n, nc, hp⟩ := pre_of ht hq
  cases hgb : gB q with
  | true => exact pours_great q white n nc _ V hp hgb
  | false =>
    by_cases hy : qY q n nc = []
    · cases white with
      | false => exact pours_B0 q n nc _ V hp hgb hy
      | true => exact pours_B1 q n nc _ V hp hgb hy
    · cases white with
      | false => exact pours_A0 q n nc _ V hp hgb hy
      | true => exact pours_A1 q n nc _ V hp hgb hy
end Go.Proofs.YtkfgchhlekdpgaaGreatDoor.Nt
