/-
  NoteRuns.
-/
import Derived.Test.YtkfgchhlekdpgaaGreatDoorNtT0
namespace Go.Proofs.YtkfgchhlekdpgaaGreatDoor.Nt
open Go.RowKit
open Class (below_drewN)
open Hp (Ids St Is To Mine bnI bn coE coV colB objL st0)
open Lg (BfIs BxIs)
open Blk (Cfg little BytesP)
open Sw (ThingsP madeS Sm)
open Go.Proofs.YtkfgchhlekdpgaaGreatDoor.Row (Chg rowB Rd Rd0 cellsZ)
open Go.Proofs.YtkfgchhlekdpgaaGreatDoor.Addr (Tabs)

set_option maxRecDepth 200000 in
set_option maxHeartbeats 8000000 in
theorem runs_E (q : Cs) (most : Int) (n nc S : Nat) (V : World) (hp : Pre q n nc S V) (hgb : gB q = false) (hk : (poK (coV (sQ q n nc)) 1 (qX q n nc) (qY q n nc).length) = 0) :
    Calls Tryz.prog 5 #[(.agg #[.int .i64 q.c.b, .int .i64 q.c.wd, .int .i64 q.c.m, .int .i64 q.c.r, .int .i64 q.c.ce, .int .i64 q.c.lg, .int .i64 q.c.st, .slice q.pt q.l.length q.ct, .slice q.pb q.bl.length q.cb, .slice q.px q.xl.length q.cx, .int .u8 q.room, .bool q.up]), .int .i64 most] V fun e w' => e = .returned (.bool true) ∧ Below V.heap.size V w' := by
  have HPR := Lib.hid hp
  have HHK := Lib.hid hk
  clear hk
  have HGR : Hid (∀ W, Calls Tryz.prog 11 #[(.agg #[.int .i64 q.c.b, .int .i64 q.c.wd, .int .i64 q.c.m, .int .i64 q.c.r, .int .i64 q.c.ce, .int .i64 q.c.lg, .int .i64 q.c.st, .slice q.pt q.l.length q.ct, .slice q.pb q.bl.length q.cb, .slice q.px q.xl.length q.cx, .int .u8 q.room, .bool q.up])] W fun e w' => e = .returned (.bool false) ∧ Below W.heap.size W w') := Lib.hid fun W => by
    have h := great_any q W
    rw [hgb] at h
    exact h
  obtain ⟨V1, hV1⟩ : ∃ V1, V.alloc (.cells #[.int .i64 q.c.b, .int .i64 q.c.wd, .int .i64 q.c.m, .int .i64 q.c.r, .int .i64 q.c.ce, .int .i64 q.c.lg, .int .i64 q.c.st, .slice q.pt q.l.length q.ct, .slice q.pb q.bl.length q.cb, .slice q.px q.xl.length q.cx, .int .u8 q.room, .bool q.up] 27) = V1 := ⟨_, rfl⟩
  have HC1 : Hid (CaseAt q V1 V.heap.size) := Lib.hid (hV1 ▸ CaseAt.new q V)
  have HB1 : Hid (Below V.heap.size V V1) := Lib.hid (by rw [← hV1]; exact (Below.refl _ _).alloc (Nat.le_refl _) _)
  have HBV : Hid (∀ U, Below V1.heap.size V1 U → Below V.heap.size V U) := Lib.hid fun U hU => HB1.out.trans (hU.mono HB1.out.size)
  clear hp hgb
  obtain ⟨k0, k1, k2, k3, k4, k5, k6, k7, k8, k9, k10, k11⟩ := HC1.out
  go_enter Tryz.func5, Tryz.ntmps5
  go_wp2_with fail
  refine (HGR.out _).mono ?_
  rintro e w2 ⟨rfl, hb2⟩
  have HP2 : Hid (Below V1.heap.size V1 w2) := Lib.hid hb2
  clear hb2 HGR k0 k1 k2 k3 k4 k5 k6 k7 k8 k9 k10 k11
  go_wp2_with (go_at_call 12; fail)
  refine (awake_any _ (HPR.out.ht.later (HBV.out _ HP2.out))).mono ?_
  rintro e w3 ⟨rfl, hb3⟩
  have HP3 : Hid (Below V1.heap.size V1 w3) := Lib.hid (HP2.out.trans (hb3.mono HP2.out.size))
  clear hb3 HP2
  obtain ⟨k0, k1, k2, k3, k4, k5, k6, k7, k8, k9, k10, k11⟩ := HC1.out.later HP3.out
  go_wp2_with (go_at_call 13; fail)
  refine ((HPR.out.later (HBV.out _ HP3.out)).parts).mono ?_
  rintro e w4 ⟨H, B, X, F, d, m, rfl, hp, hm, hsm⟩
  have HPB := Lib.hid hp
  have HLE : Hid ((objL (sQ q n nc)).length ≤ 1000) := Lib.hid (obj_le hsm)
  have HP4 : Hid (Below V1.heap.size V1 w4) := Lib.hid (HP3.out.trans (hp.bel.mono HP3.out.size))
  clear hp hm hsm k0 k1 k2 k3 k4 k5 k6 k7 k8 k9 k10 k11
  go_wp2_with (go_at_call 14; fail)
  refine (new_any HPB.out).mono ?_
  rintro e w5 ⟨rfl, hn5⟩
  generalize w4.heap.size = N at *
  have HP5 : Hid (Below V1.heap.size V1 w5) := Lib.hid (HP3.out.trans ((hn5.bel.below (fun _ e => e.elim) (Nat.le_refl _)).mono HP3.out.size))
  have HN5 := Lib.hid hn5
  have HGE : Hid (∀ k, own H d B X F k → V.heap.size < k) := Lib.hid fun k hk => by
    have h1 := HPB.out.ge k hk
    have h2 := HP3.out.size
    have h3 := HC1.out.lt
    omega
  clear hn5 HPB
  go_wp2_with (go_at_call 15; fail)
  refine (colors_any w5 HN5.out.is (HPR.out.ht.later (HBV.out _ HP5.out)) (by have := HLE.out; omega)).mono ?_
  rintro e w6 ⟨p1, c1, p2, c2, rfl, hr1, hr2, hb6, hg6⟩
  have HR1 := Lib.hid hr1
  have HR2 := Lib.hid hr2
  have HG6 : Hid (∀ g, rowB p1 g ∨ rowB p2 g → ¬ own H d B X F g) := Lib.hid fun g hg hk => by
    have h1 := hg6 g hg
    have h2 := HN5.out.lt hk
    omega
  have HN6 := Lib.hid (HN5.out.later hb6)
  have HP6 : Hid (Below V1.heap.size V1 w6) := Lib.hid (HP5.out.trans (hb6.mono HP5.out.size))
  clear hr1 hr2 hb6 hg6 HN5
  have HCL : Hid ((coL (sQ q n nc)).length = (objL (sQ q n nc)).length) := Lib.hid (by simp [coL])
  go_wp2_with (go_at_call 16; fail)
  refine (nb_all HN6.out).mono ?_
  rintro e w7 ⟨p3, c3, rfl, hr3, hb7, hg3⟩
  have HR3 := Lib.hid hr3
  have HX7 : Hid (Below w6.heap.size w6 w7) := Lib.hid hb7
  have HG3 : Hid (∀ g, rowB p3 g → w6.heap.size ≤ g) := Lib.hid hg3
  clear hr3 hb7 hg3
  go_wp2_with (go_at_call 17; fail)
  refine (nb_blen (HN6.out.later HX7.out)).mono ?_
  rintro e w8 ⟨rfl, hb8⟩
  have HX8 : Hid (Below w6.heap.size w6 w8) := Lib.hid (HX7.out.trans (hb8.mono HX7.out.size))
  have HY8 : Hid (Below w7.heap.size w7 w8) := Lib.hid hb8
  clear hb8
  have HN8 := Lib.hid ((HN6.out.later HX8.out).rebase (HPR.out.ht.later (HBV.out _ (HP6.out.trans (HX8.out.mono HP6.out.size)))))
  have HP8 : Hid (Below V.heap.size V w8) := Lib.hid (HBV.out _ (HP6.out.trans (HX8.out.mono HP6.out.size)))
  have HL8 : Hid (Lc w8 q V.heap.size p1 p2 p3 (objL (sQ q n nc)) (coL (sQ q n nc)) (qX q n nc)) := Lib.hid ⟨HR1.out.later HX8.out, HR2.out.later HX8.out, HR3.out.later HY8.out, HC1.out.later (HP6.out.trans (HX8.out.mono HP6.out.size))⟩
  have HOW : Hid (∀ g, (rowB p1 g ∨ rowB p2 g ∨ rowB p3 g) → ¬ own H d B X F g) := Lib.hid fun g hg hk => by
    rcases hg with hg | hg | hg
    · exact HG6.out g (.inl hg) hk
    · exact HG6.out g (.inr hg) hk
    · have h1 := HG3.out g hg
      have h2 := HN6.out.lt hk
      omega
  have HBO : Hid (¬ own H d B X F V.heap.size) := Lib.hid fun e => by have := HGE.out _ e; omega
  have HVS : Hid (∀ k, own H d B X F k → V.heap.size ≤ k) := Lib.hid fun k e => by have := HGE.out _ e; omega
  clear HR1 HR2 HR3 HG3 HG6 HN6 HX7 HX8 HY8 HP6 HP5 HP4 HC1 HB1 HBV HGE
  have hqx : addsL (1 + q.room % 6) (objL (sQ q n nc)) q.bl = qX q n nc := rfl
  have hqy : addsL 256 (objL (sQ q n nc)) q.xl = qY q n nc := rfl
  rw [hqx, hqy] at *
  clear hqx hqy
  have hin2 : ∀ a ∈ (qX q n nc), a ∈ objL (sQ q n nc) := fun a ha => addsL_mem ha
  have hbn : ∀ a ∈ (qX q n nc), bnI (sQ q n nc) a = true := fun a ha => (obj_mem HN8.out.is).1 (hin2 a ha)
  have HXL : Hid ((qX q n nc).length ≤ 6) := Lib.hid (by
    have := addsL_len (r := (1 + q.room % 6)) (al := objL (sQ q n nc)) (zs := q.bl)
    unfold qX
    omega)
  have HKE : Hid (pK 1 (sQ q n nc) (qX q n nc) (qY q n nc) = (poK (coV (sQ q n nc)) 1 (qX q n nc) (qY q n nc).length)) := Lib.hid (pK_eq (Og.of HN8.out.is) (by rfl) hbn (qY q n nc))
  have HKL : Hid ((poK (coV (sQ q n nc)) 1 (qX q n nc) (qY q n nc).length) ≤ 8) := Lib.hid (by have := poK_le (coV (sQ q n nc)) 1 (qX q n nc) (qY q n nc).length; have := HXL.out; omega)
  have HIN2 := Lib.hid hin2
  clear hin2 hbn
  go_wp2_with (go_at_call 23; fail)
  refine (poured_any (coV (sQ q n nc)) 1 (qY q n nc).length (objL (sQ q n nc)) (qX q n nc) p1 p2 p3 c1 c2 c3 w8 HL8.out.r1 HL8.out.r2 HL8.out.r3 (by have := HLE.out; omega) (by have := HXL.out; omega) HIN2.out).mono ?_
  rintro e wb ⟨pf, cf, rfl, hrf, hbb⟩
  have HNB := Lib.hid (HN8.out.later hbb)
  clear hrf hbb
  have HNO := Lib.hid (pour_any 1 0 ⟨fun U => ∃ d1 s1 xs1 ys1 up1, Nb ⟨w8, own H d B X F⟩ U H d1 s1 m B X F N (1 + q.room % 6) xs1 ys1 up1 [], fun U => ∃ d1 s1 xs1 ys1 up1, Nb ⟨w8, own H d B X F⟩ U H d1 s1 m B X F N (1 + q.room % 6) xs1 ys1 up1 []⟩ (fun U d1 s1 xs1 ys1 up1 h1 => ⟨d1, s1, xs1, ys1, up1, h1⟩) .nilFunc (.inl rfl) (qX q n nc) (qY q n nc) d (sQ q n nc) q.up [] wb HNB.out (fun U d1 h1 => ⟨rfl, d1, _, _, _, _, h1⟩))
  rw [HKE.out] at HNO
  clear HN8 HKE HBO HOW HXL HIN2
  generalize (poK (coV (sQ q n nc)) 1 (qX q n nc) (qY q n nc).length) = kk at *
  generalize (poR (coV (sQ q n nc)) 1 (qX q n nc) (qY q n nc).length).length = fl at *
  have hk8 : (kk : Int) ≤ 8 := by have := HKL.out; omega
  have hk0 : (0 : Int) ≤ (kk : Int) := by omega
  go_wp2_with (go_at_call 27; fail)
  refine HNO.out.mono ?_
  rintro e w10 ⟨u, rfl, hd⟩
  have HD := Lib.hid hd
  clear hd HNO
  go_wp2_with (go_at_call 18; fail)
  have hd0 := HD.out
  have hkk : kk = 0 := HHK.out
  subst hkk
  obtain ⟨hu, hi⟩ := hd0
  refine (run_zero u hu most w10).mono ?_
  rintro e w11 ⟨rfl, hw11⟩
  have HI : Hid ((fun U => ∃ d1 s1 xs1 ys1 up1, Nb ⟨w8, own H d B X F⟩ U H d1 s1 m B X F N (1 + q.room % 6) xs1 ys1 up1 []) w11) := Lib.hid (hw11 ▸ hi)
  clear hu hi hw11
  clear HD
  obtain ⟨mn, hmn⟩ : ∃ mn, min (0 : Int) most = mn := ⟨_, rfl⟩
  have hmx : max (0 : Int) mn = 0 := by omega
  go_wp2_with (go_at_call 14; fail)
  clear hmn hmx
  refine (new_no_x _ _ _ w11).mono ?_
  rintro e w9 ⟨rfl, hw9⟩
  obtain rfl : w11 = w9 := hw9.symm
  go_wp2_with (go_at_call 14; fail)
  refine (new_no_h _ _ _ w11).mono ?_
  rintro e w9 ⟨rfl, hw9⟩
  obtain rfl : w11 = w9 := hw9.symm
  go_wp2_with (go_at_call 14; fail)
  refine (new_no_b _ _ _ w11).mono ?_
  rintro e w9 ⟨rfl, hw9⟩
  obtain rfl : w11 = w9 := hw9.symm
  go_wp2_with (go_at_call 14; fail)
  refine (new_no_f _ _ _ w11).mono ?_
  rintro e w9 ⟨rfl, hw9⟩
  obtain rfl : w11 = w9 := hw9.symm
  have HB0 : Hid (Below w11.heap.size w11 w11) := Lib.hid (Below.refl _ _)
  go_wp2_with (go_at_call 20; fail)
  refine (once_any _).mono ?_
  rintro e wc1 ⟨rfl, hwc⟩
  have HBC1 : Hid (Below w11.heap.size w11 wc1) := Lib.hid (hwc ▸ HB0.out.alloc HB0.out.size _)
  have HCC1 : Hid (wc1.cell? ⟨w11.heap.size, 0, none⟩ = some .nilFunc) := Lib.hid (by rw [hwc]; exact World.cell?_alloc_new ..)
  clear hwc
  go_wp2_with (go_at_call 19; fail)
  refine (none_Note 1 1 _ _ wc1).mono ?_
  rintro e wd1 ⟨rfl, hbd⟩
  have HBD1 : Hid (Below w11.heap.size w11 wd1) := Lib.hid (HBC1.out.trans (hbd.mono HBC1.out.size))
  have HRD1 := Lib.hid (run_any ⟨fun _ => True, fun U => U = wd1⟩ 1 5 _ wd1 (does_once _ w11.heap.size wd1 ((hbd.cell (p := ⟨w11.heap.size, 0, none⟩) (lt_of_cell HCC1.out)).trans HCC1.out) trivial rfl) (by decide) (by decide))
  clear hbd
  go_wp2_with (go_at_call 18; fail)
  refine HRD1.out.mono ?_
  rintro e we1 ⟨rfl, hwe⟩
  have hwe2 : we1 = wd1 := hwe
  clear hwe HRD1
  obtain rfl : wd1 = we1 := hwe2.symm
  clear HCC1
  go_wp2_with (go_at_call 20; fail)
  refine (once_any _).mono ?_
  rintro e wc2 ⟨rfl, hwc⟩
  have HBC2 : Hid (Below w11.heap.size w11 wc2) := Lib.hid (hwc ▸ HBD1.out.alloc HBD1.out.size _)
  have HCC2 : Hid (wc2.cell? ⟨wd1.heap.size, 0, none⟩ = some .nilFunc) := Lib.hid (by rw [hwc]; exact World.cell?_alloc_new ..)
  clear hwc
  go_wp2_with (go_at_call 27; fail)
  refine (none_Pour 1 _ _ wc2).mono ?_
  rintro e wd2 ⟨rfl, hbd⟩
  have HBD2 : Hid (Below w11.heap.size w11 wd2) := Lib.hid (HBC2.out.trans (hbd.mono HBC2.out.size))
  have HRD2 := Lib.hid (run_any ⟨fun _ => True, fun U => U = wd2⟩ 1 5 _ wd2 (does_once _ wd1.heap.size wd2 ((hbd.cell (p := ⟨wd1.heap.size, 0, none⟩) (lt_of_cell HCC2.out)).trans HCC2.out) trivial rfl) (by decide) (by decide))
  clear hbd
  go_wp2_with (go_at_call 18; fail)
  refine HRD2.out.mono ?_
  rintro e we2 ⟨rfl, hwe⟩
  have hwe2 : we2 = wd2 := hwe
  clear hwe HRD2
  obtain rfl : wd2 = we2 := hwe2.symm
  clear HCC2
  obtain ⟨d1, s1, xs1, ys1, up1, hn1⟩ := HI.out
  have HN1 := Lib.hid (hn1.later HBD2.out)
  clear hn1 HI
  go_wp2_with (go_at_call 30; fail)
  refine (nb_raise HN1.out).mono ?_
  rintro e wr ⟨rfl, hnr⟩
  have HNR := Lib.hid hnr
  clear hnr HN1
  go_wp2_with (go_at_call 30; fail)
  refine (raise_nil wr).mono ?_
  rintro e w9 ⟨rfl, hw9⟩
  obtain rfl : wr = w9 := hw9.symm
  go_wp2_with (go_at_call 25; fail)
  refine (nb_up HNR.out).mono ?_
  rintro e wf1 ⟨rfl, hb1⟩
  have HNR1 := Lib.hid (HNR.out.later hb1)
  clear hb1
  go_wp2_with (go_at_call 31; fail)
  refine (nb_lower_up HNR1.out).mono ?_
  rintro e wf2 ⟨rfl, hn2⟩
  have HNR2 := Lib.hid hn2
  clear hn2
  go_wp2_with (go_at_call 25; fail)
  refine (nb_up HNR2.out).mono ?_
  rintro e wf3 ⟨rfl, hb3⟩
  have HNR3 := Lib.hid (HNR2.out.later hb3)
  clear hb3
  go_wp2_with (go_at_call 31; fail)
  refine (nb_lower_no HNR3.out).mono ?_
  rintro e wf4 ⟨rfl, hb4⟩
  have HNR4 := Lib.hid (HNR3.out.later hb4)
  clear hb4
  go_wp2_with (go_at_call 25; fail)
  refine (up_nil wf4).mono ?_
  rintro e w9 ⟨rfl, hw9⟩
  obtain rfl : wf4 = w9 := hw9.symm
  go_wp2_with (go_at_call 31; fail)
  refine (lower_nil wf4).mono ?_
  rintro e w9 ⟨rfl, hw9⟩
  obtain rfl : wf4 = w9 := hw9.symm
  have HF : Hid (Below V.heap.size V wf4) := Lib.hid (HP8.out.trans (HNR4.out.bel.below HVS.out HP8.out.size))
  go_wp2_with fail
  go_ret
  exact ⟨rfl, HF.out⟩

set_option maxRecDepth 200000 in
set_option maxHeartbeats 8000000 in
theorem runs_F (q : Cs) (most : Int) (n nc S : Nat) (V : World) (hp : Pre q n nc S V) (hgb : gB q = false) (hk : 0 < (poK (coV (sQ q n nc)) 1 (qX q n nc) (qY q n nc).length)) (hmo : ((poK (coV (sQ q n nc)) 1 (qX q n nc) (qY q n nc).length) : Int) ≤ most) :
    Calls Tryz.prog 5 #[(.agg #[.int .i64 q.c.b, .int .i64 q.c.wd, .int .i64 q.c.m, .int .i64 q.c.r, .int .i64 q.c.ce, .int .i64 q.c.lg, .int .i64 q.c.st, .slice q.pt q.l.length q.ct, .slice q.pb q.bl.length q.cb, .slice q.px q.xl.length q.cx, .int .u8 q.room, .bool q.up]), .int .i64 most] V fun e w' => e = .returned (.bool true) ∧ Below V.heap.size V w' := by
  have HPR := Lib.hid hp
  have HHK := Lib.hid hk
  have HHMO := Lib.hid hmo
  clear hk hmo
  have HGR : Hid (∀ W, Calls Tryz.prog 11 #[(.agg #[.int .i64 q.c.b, .int .i64 q.c.wd, .int .i64 q.c.m, .int .i64 q.c.r, .int .i64 q.c.ce, .int .i64 q.c.lg, .int .i64 q.c.st, .slice q.pt q.l.length q.ct, .slice q.pb q.bl.length q.cb, .slice q.px q.xl.length q.cx, .int .u8 q.room, .bool q.up])] W fun e w' => e = .returned (.bool false) ∧ Below W.heap.size W w') := Lib.hid fun W => by
    have h := great_any q W
    rw [hgb] at h
    exact h
  obtain ⟨V1, hV1⟩ : ∃ V1, V.alloc (.cells #[.int .i64 q.c.b, .int .i64 q.c.wd, .int .i64 q.c.m, .int .i64 q.c.r, .int .i64 q.c.ce, .int .i64 q.c.lg, .int .i64 q.c.st, .slice q.pt q.l.length q.ct, .slice q.pb q.bl.length q.cb, .slice q.px q.xl.length q.cx, .int .u8 q.room, .bool q.up] 27) = V1 := ⟨_, rfl⟩
  have HC1 : Hid (CaseAt q V1 V.heap.size) := Lib.hid (hV1 ▸ CaseAt.new q V)
  have HB1 : Hid (Below V.heap.size V V1) := Lib.hid (by rw [← hV1]; exact (Below.refl _ _).alloc (Nat.le_refl _) _)
  have HBV : Hid (∀ U, Below V1.heap.size V1 U → Below V.heap.size V U) := Lib.hid fun U hU => HB1.out.trans (hU.mono HB1.out.size)
  clear hp hgb
  obtain ⟨k0, k1, k2, k3, k4, k5, k6, k7, k8, k9, k10, k11⟩ := HC1.out
  go_enter Tryz.func5, Tryz.ntmps5
  go_wp2_with fail
  refine (HGR.out _).mono ?_
  rintro e w2 ⟨rfl, hb2⟩
  have HP2 : Hid (Below V1.heap.size V1 w2) := Lib.hid hb2
  clear hb2 HGR k0 k1 k2 k3 k4 k5 k6 k7 k8 k9 k10 k11
  go_wp2_with (go_at_call 12; fail)
  refine (awake_any _ (HPR.out.ht.later (HBV.out _ HP2.out))).mono ?_
  rintro e w3 ⟨rfl, hb3⟩
  have HP3 : Hid (Below V1.heap.size V1 w3) := Lib.hid (HP2.out.trans (hb3.mono HP2.out.size))
  clear hb3 HP2
  obtain ⟨k0, k1, k2, k3, k4, k5, k6, k7, k8, k9, k10, k11⟩ := HC1.out.later HP3.out
  go_wp2_with (go_at_call 13; fail)
  refine ((HPR.out.later (HBV.out _ HP3.out)).parts).mono ?_
  rintro e w4 ⟨H, B, X, F, d, m, rfl, hp, hm, hsm⟩
  have HPB := Lib.hid hp
  have HLE : Hid ((objL (sQ q n nc)).length ≤ 1000) := Lib.hid (obj_le hsm)
  have HP4 : Hid (Below V1.heap.size V1 w4) := Lib.hid (HP3.out.trans (hp.bel.mono HP3.out.size))
  clear hp hm hsm k0 k1 k2 k3 k4 k5 k6 k7 k8 k9 k10 k11
  go_wp2_with (go_at_call 14; fail)
  refine (new_any HPB.out).mono ?_
  rintro e w5 ⟨rfl, hn5⟩
  generalize w4.heap.size = N at *
  have HP5 : Hid (Below V1.heap.size V1 w5) := Lib.hid (HP3.out.trans ((hn5.bel.below (fun _ e => e.elim) (Nat.le_refl _)).mono HP3.out.size))
  have HN5 := Lib.hid hn5
  have HGE : Hid (∀ k, own H d B X F k → V.heap.size < k) := Lib.hid fun k hk => by
    have h1 := HPB.out.ge k hk
    have h2 := HP3.out.size
    have h3 := HC1.out.lt
    omega
  clear hn5 HPB
  go_wp2_with (go_at_call 15; fail)
  refine (colors_any w5 HN5.out.is (HPR.out.ht.later (HBV.out _ HP5.out)) (by have := HLE.out; omega)).mono ?_
  rintro e w6 ⟨p1, c1, p2, c2, rfl, hr1, hr2, hb6, hg6⟩
  have HR1 := Lib.hid hr1
  have HR2 := Lib.hid hr2
  have HG6 : Hid (∀ g, rowB p1 g ∨ rowB p2 g → ¬ own H d B X F g) := Lib.hid fun g hg hk => by
    have h1 := hg6 g hg
    have h2 := HN5.out.lt hk
    omega
  have HN6 := Lib.hid (HN5.out.later hb6)
  have HP6 : Hid (Below V1.heap.size V1 w6) := Lib.hid (HP5.out.trans (hb6.mono HP5.out.size))
  clear hr1 hr2 hb6 hg6 HN5
  have HCL : Hid ((coL (sQ q n nc)).length = (objL (sQ q n nc)).length) := Lib.hid (by simp [coL])
  go_wp2_with (go_at_call 16; fail)
  refine (nb_all HN6.out).mono ?_
  rintro e w7 ⟨p3, c3, rfl, hr3, hb7, hg3⟩
  have HR3 := Lib.hid hr3
  have HX7 : Hid (Below w6.heap.size w6 w7) := Lib.hid hb7
  have HG3 : Hid (∀ g, rowB p3 g → w6.heap.size ≤ g) := Lib.hid hg3
  clear hr3 hb7 hg3
  go_wp2_with (go_at_call 17; fail)
  refine (nb_blen (HN6.out.later HX7.out)).mono ?_
  rintro e w8 ⟨rfl, hb8⟩
  have HX8 : Hid (Below w6.heap.size w6 w8) := Lib.hid (HX7.out.trans (hb8.mono HX7.out.size))
  have HY8 : Hid (Below w7.heap.size w7 w8) := Lib.hid hb8
  clear hb8
  have HN8 := Lib.hid ((HN6.out.later HX8.out).rebase (HPR.out.ht.later (HBV.out _ (HP6.out.trans (HX8.out.mono HP6.out.size)))))
  have HP8 : Hid (Below V.heap.size V w8) := Lib.hid (HBV.out _ (HP6.out.trans (HX8.out.mono HP6.out.size)))
  have HL8 : Hid (Lc w8 q V.heap.size p1 p2 p3 (objL (sQ q n nc)) (coL (sQ q n nc)) (qX q n nc)) := Lib.hid ⟨HR1.out.later HX8.out, HR2.out.later HX8.out, HR3.out.later HY8.out, HC1.out.later (HP6.out.trans (HX8.out.mono HP6.out.size))⟩
  have HOW : Hid (∀ g, (rowB p1 g ∨ rowB p2 g ∨ rowB p3 g) → ¬ own H d B X F g) := Lib.hid fun g hg hk => by
    rcases hg with hg | hg | hg
    · exact HG6.out g (.inl hg) hk
    · exact HG6.out g (.inr hg) hk
    · have h1 := HG3.out g hg
      have h2 := HN6.out.lt hk
      omega
  have HBO : Hid (¬ own H d B X F V.heap.size) := Lib.hid fun e => by have := HGE.out _ e; omega
  have HVS : Hid (∀ k, own H d B X F k → V.heap.size ≤ k) := Lib.hid fun k e => by have := HGE.out _ e; omega
  clear HR1 HR2 HR3 HG3 HG6 HN6 HX7 HX8 HY8 HP6 HP5 HP4 HC1 HB1 HBV HGE
  have hqx : addsL (1 + q.room % 6) (objL (sQ q n nc)) q.bl = qX q n nc := rfl
  have hqy : addsL 256 (objL (sQ q n nc)) q.xl = qY q n nc := rfl
  rw [hqx, hqy] at *
  clear hqx hqy
  have hin2 : ∀ a ∈ (qX q n nc), a ∈ objL (sQ q n nc) := fun a ha => addsL_mem ha
  have hbn : ∀ a ∈ (qX q n nc), bnI (sQ q n nc) a = true := fun a ha => (obj_mem HN8.out.is).1 (hin2 a ha)
  have HXL : Hid ((qX q n nc).length ≤ 6) := Lib.hid (by
    have := addsL_len (r := (1 + q.room % 6)) (al := objL (sQ q n nc)) (zs := q.bl)
    unfold qX
    omega)
  have HKE : Hid (pK 1 (sQ q n nc) (qX q n nc) (qY q n nc) = (poK (coV (sQ q n nc)) 1 (qX q n nc) (qY q n nc).length)) := Lib.hid (pK_eq (Og.of HN8.out.is) (by rfl) hbn (qY q n nc))
  have HKL : Hid ((poK (coV (sQ q n nc)) 1 (qX q n nc) (qY q n nc).length) ≤ 8) := Lib.hid (by have := poK_le (coV (sQ q n nc)) 1 (qX q n nc) (qY q n nc).length; have := HXL.out; omega)
  have HIN2 := Lib.hid hin2
  clear hin2 hbn
  go_wp2_with (go_at_call 23; fail)
  refine (poured_any (coV (sQ q n nc)) 1 (qY q n nc).length (objL (sQ q n nc)) (qX q n nc) p1 p2 p3 c1 c2 c3 w8 HL8.out.r1 HL8.out.r2 HL8.out.r3 (by have := HLE.out; omega) (by have := HXL.out; omega) HIN2.out).mono ?_
  rintro e wb ⟨pf, cf, rfl, hrf, hbb⟩
  have HNB := Lib.hid (HN8.out.later hbb)
  clear hrf hbb
  have HNO := Lib.hid (pour_any 1 0 ⟨fun U => ∃ d1 s1 xs1 ys1 up1, Nb ⟨w8, own H d B X F⟩ U H d1 s1 m B X F N (1 + q.room % 6) xs1 ys1 up1 [], fun U => ∃ d1 s1 xs1 ys1 up1, Nb ⟨w8, own H d B X F⟩ U H d1 s1 m B X F N (1 + q.room % 6) xs1 ys1 up1 []⟩ (fun U d1 s1 xs1 ys1 up1 h1 => ⟨d1, s1, xs1, ys1, up1, h1⟩) .nilFunc (.inl rfl) (qX q n nc) (qY q n nc) d (sQ q n nc) q.up [] wb HNB.out (fun U d1 h1 => ⟨rfl, d1, _, _, _, _, h1⟩))
  rw [HKE.out] at HNO
  clear HN8 HKE HBO HOW HXL HIN2
  generalize (poK (coV (sQ q n nc)) 1 (qX q n nc) (qY q n nc).length) = kk at *
  generalize (poR (coV (sQ q n nc)) 1 (qX q n nc) (qY q n nc).length).length = fl at *
  have hk8 : (kk : Int) ≤ 8 := by have := HKL.out; omega
  have hk0 : (0 : Int) ≤ (kk : Int) := by omega
  go_wp2_with (go_at_call 27; fail)
  refine HNO.out.mono ?_
  rintro e w10 ⟨u, rfl, hd⟩
  have HD := Lib.hid hd
  clear hd HNO
  go_wp2_with (go_at_call 18; fail)
  refine (run_all _ kk most u w10 HD.out HHMO.out (by have := HKL.out; omega)).mono ?_
  rintro e w11 ⟨rfl, hi⟩
  have HI : Hid ((fun U => ∃ d1 s1 xs1 ys1 up1, Nb ⟨w8, own H d B X F⟩ U H d1 s1 m B X F N (1 + q.room % 6) xs1 ys1 up1 []) w11) := Lib.hid hi
  have hmo := HHMO.out
  have hkp : (0 : Int) < (kk : Int) := by have := HHK.out; omega
  clear hi
  clear HD
  have hmn : min (kk : Int) most = (kk : Int) := by omega
  have hmx : max (0 : Int) (kk : Int) = (kk : Int) := by omega
  have hnn : ((kk : Int) != (kk : Int)) = false := by simp
  have hz0 : ((kk : Int) == 0) = false := by rw [beq_eq_false_iff_ne]; omega
  have hge : decide ((kk : Int) ≤ most) = true := decide_eq_true hmo
  go_wp2_with (go_at_call 14; fail)
  clear hmn hmx hnn hz0 hge
  refine (new_no_x _ _ _ w11).mono ?_
  rintro e w9 ⟨rfl, hw9⟩
  obtain rfl : w11 = w9 := hw9.symm
  go_wp2_with (go_at_call 14; fail)
  refine (new_no_h _ _ _ w11).mono ?_
  rintro e w9 ⟨rfl, hw9⟩
  obtain rfl : w11 = w9 := hw9.symm
  go_wp2_with (go_at_call 14; fail)
  refine (new_no_b _ _ _ w11).mono ?_
  rintro e w9 ⟨rfl, hw9⟩
  obtain rfl : w11 = w9 := hw9.symm
  go_wp2_with (go_at_call 14; fail)
  refine (new_no_f _ _ _ w11).mono ?_
  rintro e w9 ⟨rfl, hw9⟩
  obtain rfl : w11 = w9 := hw9.symm
  have HB0 : Hid (Below w11.heap.size w11 w11) := Lib.hid (Below.refl _ _)
  go_wp2_with (go_at_call 20; fail)
  refine (once_any _).mono ?_
  rintro e wc1 ⟨rfl, hwc⟩
  have HBC1 : Hid (Below w11.heap.size w11 wc1) := Lib.hid (hwc ▸ HB0.out.alloc HB0.out.size _)
  have HCC1 : Hid (wc1.cell? ⟨w11.heap.size, 0, none⟩ = some .nilFunc) := Lib.hid (by rw [hwc]; exact World.cell?_alloc_new ..)
  clear hwc
  go_wp2_with (go_at_call 19; fail)
  refine (none_Note 1 1 _ _ wc1).mono ?_
  rintro e wd1 ⟨rfl, hbd⟩
  have HBD1 : Hid (Below w11.heap.size w11 wd1) := Lib.hid (HBC1.out.trans (hbd.mono HBC1.out.size))
  have HRD1 := Lib.hid (run_any ⟨fun _ => True, fun U => U = wd1⟩ 1 5 _ wd1 (does_once _ w11.heap.size wd1 ((hbd.cell (p := ⟨w11.heap.size, 0, none⟩) (lt_of_cell HCC1.out)).trans HCC1.out) trivial rfl) (by decide) (by decide))
  clear hbd
  go_wp2_with (go_at_call 18; fail)
  refine HRD1.out.mono ?_
  rintro e we1 ⟨rfl, hwe⟩
  have hwe2 : we1 = wd1 := hwe
  clear hwe HRD1
  obtain rfl : wd1 = we1 := hwe2.symm
  clear HCC1
  go_wp2_with (go_at_call 20; fail)
  refine (once_any _).mono ?_
  rintro e wc2 ⟨rfl, hwc⟩
  have HBC2 : Hid (Below w11.heap.size w11 wc2) := Lib.hid (hwc ▸ HBD1.out.alloc HBD1.out.size _)
  have HCC2 : Hid (wc2.cell? ⟨wd1.heap.size, 0, none⟩ = some .nilFunc) := Lib.hid (by rw [hwc]; exact World.cell?_alloc_new ..)
  clear hwc
  go_wp2_with (go_at_call 27; fail)
  refine (none_Pour 1 _ _ wc2).mono ?_
  rintro e wd2 ⟨rfl, hbd⟩
  have HBD2 : Hid (Below w11.heap.size w11 wd2) := Lib.hid (HBC2.out.trans (hbd.mono HBC2.out.size))
  have HRD2 := Lib.hid (run_any ⟨fun _ => True, fun U => U = wd2⟩ 1 5 _ wd2 (does_once _ wd1.heap.size wd2 ((hbd.cell (p := ⟨wd1.heap.size, 0, none⟩) (lt_of_cell HCC2.out)).trans HCC2.out) trivial rfl) (by decide) (by decide))
  clear hbd
  go_wp2_with (go_at_call 18; fail)
  refine HRD2.out.mono ?_
  rintro e we2 ⟨rfl, hwe⟩
  have hwe2 : we2 = wd2 := hwe
  clear hwe HRD2
  obtain rfl : wd2 = we2 := hwe2.symm
  clear HCC2
  obtain ⟨d1, s1, xs1, ys1, up1, hn1⟩ := HI.out
  have HN1 := Lib.hid (hn1.later HBD2.out)
  clear hn1 HI
  go_wp2_with (go_at_call 30; fail)
  refine (nb_raise HN1.out).mono ?_
  rintro e wr ⟨rfl, hnr⟩
  have HNR := Lib.hid hnr
  clear hnr HN1
  go_wp2_with (go_at_call 30; fail)
  refine (raise_nil wr).mono ?_
  rintro e w9 ⟨rfl, hw9⟩
  obtain rfl : wr = w9 := hw9.symm
  go_wp2_with (go_at_call 25; fail)
  refine (nb_up HNR.out).mono ?_
  rintro e wf1 ⟨rfl, hb1⟩
  have HNR1 := Lib.hid (HNR.out.later hb1)
  clear hb1
  go_wp2_with (go_at_call 31; fail)
  refine (nb_lower_up HNR1.out).mono ?_
  rintro e wf2 ⟨rfl, hn2⟩
  have HNR2 := Lib.hid hn2
  clear hn2
  go_wp2_with (go_at_call 25; fail)
  refine (nb_up HNR2.out).mono ?_
  rintro e wf3 ⟨rfl, hb3⟩
  have HNR3 := Lib.hid (HNR2.out.later hb3)
  clear hb3
  go_wp2_with (go_at_call 31; fail)
  refine (nb_lower_no HNR3.out).mono ?_
  rintro e wf4 ⟨rfl, hb4⟩
  have HNR4 := Lib.hid (HNR3.out.later hb4)
  clear hb4
  go_wp2_with (go_at_call 25; fail)
  refine (up_nil wf4).mono ?_
  rintro e w9 ⟨rfl, hw9⟩
  obtain rfl : wf4 = w9 := hw9.symm
  go_wp2_with (go_at_call 31; fail)
  refine (lower_nil wf4).mono ?_
  rintro e w9 ⟨rfl, hw9⟩
  obtain rfl : wf4 = w9 := hw9.symm
  have HF : Hid (Below V.heap.size V wf4) := Lib.hid (HP8.out.trans (HNR4.out.bel.below HVS.out HP8.out.size))
  go_wp2_with fail
  go_ret
  exact ⟨rfl, HF.out⟩

set_option maxRecDepth 200000 in
set_option maxHeartbeats 8000000 in
theorem runs_G (q : Cs) (most : Int) (n nc S : Nat) (V : World) (hp : Pre q n nc S V) (hgb : gB q = false) (hk : 0 < (poK (coV (sQ q n nc)) 1 (qX q n nc) (qY q n nc).length)) (hmo : most < ((poK (coV (sQ q n nc)) 1 (qX q n nc) (qY q n nc).length) : Int)) :
    Calls Tryz.prog 5 #[(.agg #[.int .i64 q.c.b, .int .i64 q.c.wd, .int .i64 q.c.m, .int .i64 q.c.r, .int .i64 q.c.ce, .int .i64 q.c.lg, .int .i64 q.c.st, .slice q.pt q.l.length q.ct, .slice q.pb q.bl.length q.cb, .slice q.px q.xl.length q.cx, .int .u8 q.room, .bool q.up]), .int .i64 most] V fun e w' => e = .returned (.bool true) ∧ Below V.heap.size V w' := by
  have HPR := Lib.hid hp
  have HHK := Lib.hid hk
  have HHMO := Lib.hid hmo
  clear hk hmo
  have HGR : Hid (∀ W, Calls Tryz.prog 11 #[(.agg #[.int .i64 q.c.b, .int .i64 q.c.wd, .int .i64 q.c.m, .int .i64 q.c.r, .int .i64 q.c.ce, .int .i64 q.c.lg, .int .i64 q.c.st, .slice q.pt q.l.length q.ct, .slice q.pb q.bl.length q.cb, .slice q.px q.xl.length q.cx, .int .u8 q.room, .bool q.up])] W fun e w' => e = .returned (.bool false) ∧ Below W.heap.size W w') := Lib.hid fun W => by
    have h := great_any q W
    rw [hgb] at h
    exact h
  obtain ⟨V1, hV1⟩ : ∃ V1, V.alloc (.cells #[.int .i64 q.c.b, .int .i64 q.c.wd, .int .i64 q.c.m, .int .i64 q.c.r, .int .i64 q.c.ce, .int .i64 q.c.lg, .int .i64 q.c.st, .slice q.pt q.l.length q.ct, .slice q.pb q.bl.length q.cb, .slice q.px q.xl.length q.cx, .int .u8 q.room, .bool q.up] 27) = V1 := ⟨_, rfl⟩
  have HC1 : Hid (CaseAt q V1 V.heap.size) := Lib.hid (hV1 ▸ CaseAt.new q V)
  have HB1 : Hid (Below V.heap.size V V1) := Lib.hid (by rw [← hV1]; exact (Below.refl _ _).alloc (Nat.le_refl _) _)
  have HBV : Hid (∀ U, Below V1.heap.size V1 U → Below V.heap.size V U) := Lib.hid fun U hU => HB1.out.trans (hU.mono HB1.out.size)
  clear hp hgb
  obtain ⟨k0, k1, k2, k3, k4, k5, k6, k7, k8, k9, k10, k11⟩ := HC1.out
  go_enter Tryz.func5, Tryz.ntmps5
  go_wp2_with fail
  refine (HGR.out _).mono ?_
  rintro e w2 ⟨rfl, hb2⟩
  have HP2 : Hid (Below V1.heap.size V1 w2) := Lib.hid hb2
  clear hb2 HGR k0 k1 k2 k3 k4 k5 k6 k7 k8 k9 k10 k11
  go_wp2_with (go_at_call 12; fail)
  refine (awake_any _ (HPR.out.ht.later (HBV.out _ HP2.out))).mono ?_
  rintro e w3 ⟨rfl, hb3⟩
  have HP3 : Hid (Below V1.heap.size V1 w3) := Lib.hid (HP2.out.trans (hb3.mono HP2.out.size))
  clear hb3 HP2
  obtain ⟨k0, k1, k2, k3, k4, k5, k6, k7, k8, k9, k10, k11⟩ := HC1.out.later HP3.out
  go_wp2_with (go_at_call 13; fail)
  refine ((HPR.out.later (HBV.out _ HP3.out)).parts).mono ?_
  rintro e w4 ⟨H, B, X, F, d, m, rfl, hp, hm, hsm⟩
  have HPB := Lib.hid hp
  have HLE : Hid ((objL (sQ q n nc)).length ≤ 1000) := Lib.hid (obj_le hsm)
  have HP4 : Hid (Below V1.heap.size V1 w4) := Lib.hid (HP3.out.trans (hp.bel.mono HP3.out.size))
  clear hp hm hsm k0 k1 k2 k3 k4 k5 k6 k7 k8 k9 k10 k11
  go_wp2_with (go_at_call 14; fail)
  refine (new_any HPB.out).mono ?_
  rintro e w5 ⟨rfl, hn5⟩
  generalize w4.heap.size = N at *
  have HP5 : Hid (Below V1.heap.size V1 w5) := Lib.hid (HP3.out.trans ((hn5.bel.below (fun _ e => e.elim) (Nat.le_refl _)).mono HP3.out.size))
  have HN5 := Lib.hid hn5
  have HGE : Hid (∀ k, own H d B X F k → V.heap.size < k) := Lib.hid fun k hk => by
    have h1 := HPB.out.ge k hk
    have h2 := HP3.out.size
    have h3 := HC1.out.lt
    omega
  clear hn5 HPB
  go_wp2_with (go_at_call 15; fail)
  refine (colors_any w5 HN5.out.is (HPR.out.ht.later (HBV.out _ HP5.out)) (by have := HLE.out; omega)).mono ?_
  rintro e w6 ⟨p1, c1, p2, c2, rfl, hr1, hr2, hb6, hg6⟩
  have HR1 := Lib.hid hr1
  have HR2 := Lib.hid hr2
  have HG6 : Hid (∀ g, rowB p1 g ∨ rowB p2 g → ¬ own H d B X F g) := Lib.hid fun g hg hk => by
    have h1 := hg6 g hg
    have h2 := HN5.out.lt hk
    omega
  have HN6 := Lib.hid (HN5.out.later hb6)
  have HP6 : Hid (Below V1.heap.size V1 w6) := Lib.hid (HP5.out.trans (hb6.mono HP5.out.size))
  clear hr1 hr2 hb6 hg6 HN5
  have HCL : Hid ((coL (sQ q n nc)).length = (objL (sQ q n nc)).length) := Lib.hid (by simp [coL])
  go_wp2_with (go_at_call 16; fail)
  refine (nb_all HN6.out).mono ?_
  rintro e w7 ⟨p3, c3, rfl, hr3, hb7, hg3⟩
  have HR3 := Lib.hid hr3
  have HX7 : Hid (Below w6.heap.size w6 w7) := Lib.hid hb7
  have HG3 : Hid (∀ g, rowB p3 g → w6.heap.size ≤ g) := Lib.hid hg3
  clear hr3 hb7 hg3
  go_wp2_with (go_at_call 17; fail)
  refine (nb_blen (HN6.out.later HX7.out)).mono ?_
  rintro e w8 ⟨rfl, hb8⟩
  have HX8 : Hid (Below w6.heap.size w6 w8) := Lib.hid (HX7.out.trans (hb8.mono HX7.out.size))
  have HY8 : Hid (Below w7.heap.size w7 w8) := Lib.hid hb8
  clear hb8
  have HN8 := Lib.hid ((HN6.out.later HX8.out).rebase (HPR.out.ht.later (HBV.out _ (HP6.out.trans (HX8.out.mono HP6.out.size)))))
  have HP8 : Hid (Below V.heap.size V w8) := Lib.hid (HBV.out _ (HP6.out.trans (HX8.out.mono HP6.out.size)))
  have HL8 : Hid (Lc w8 q V.heap.size p1 p2 p3 (objL (sQ q n nc)) (coL (sQ q n nc)) (qX q n nc)) := Lib.hid ⟨HR1.out.later HX8.out, HR2.out.later HX8.out, HR3.out.later HY8.out, HC1.out.later (HP6.out.trans (HX8.out.mono HP6.out.size))⟩
  have HOW : Hid (∀ g, (rowB p1 g ∨ rowB p2 g ∨ rowB p3 g) → ¬ own H d B X F g) := Lib.hid fun g hg hk => by
    rcases hg with hg | hg | hg
    · exact HG6.out g (.inl hg) hk
    · exact HG6.out g (.inr hg) hk
    · have h1 := HG3.out g hg
      have h2 := HN6.out.lt hk
      omega
  have HBO : Hid (¬ own H d B X F V.heap.size) := Lib.hid fun e => by have := HGE.out _ e; omega
  have HVS : Hid (∀ k, own H d B X F k → V.heap.size ≤ k) := Lib.hid fun k e => by have := HGE.out _ e; omega
  clear HR1 HR2 HR3 HG3 HG6 HN6 HX7 HX8 HY8 HP6 HP5 HP4 HC1 HB1 HBV HGE
  have hqx : addsL (1 + q.room % 6) (objL (sQ q n nc)) q.bl = qX q n nc := rfl
  have hqy : addsL 256 (objL (sQ q n nc)) q.xl = qY q n nc := rfl
  rw [hqx, hqy] at *
  clear hqx hqy
  have hin2 : ∀ a ∈ (qX q n nc), a ∈ objL (sQ q n nc) := fun a ha => addsL_mem ha
  have hbn : ∀ a ∈ (qX q n nc), bnI (sQ q n nc) a = true := fun a ha => (obj_mem HN8.out.is).1 (hin2 a ha)
  have HXL : Hid ((qX q n nc).length ≤ 6) := Lib.hid (by
    have := addsL_len (r := (1 + q.room % 6)) (al := objL (sQ q n nc)) (zs := q.bl)
    unfold qX
    omega)
  have HKE : Hid (pK 1 (sQ q n nc) (qX q n nc) (qY q n nc) = (poK (coV (sQ q n nc)) 1 (qX q n nc) (qY q n nc).length)) := Lib.hid (pK_eq (Og.of HN8.out.is) (by rfl) hbn (qY q n nc))
  have HKL : Hid ((poK (coV (sQ q n nc)) 1 (qX q n nc) (qY q n nc).length) ≤ 8) := Lib.hid (by have := poK_le (coV (sQ q n nc)) 1 (qX q n nc) (qY q n nc).length; have := HXL.out; omega)
  have HIN2 := Lib.hid hin2
  clear hin2 hbn
  go_wp2_with (go_at_call 23; fail)
  refine (poured_any (coV (sQ q n nc)) 1 (qY q n nc).length (objL (sQ q n nc)) (qX q n nc) p1 p2 p3 c1 c2 c3 w8 HL8.out.r1 HL8.out.r2 HL8.out.r3 (by have := HLE.out; omega) (by have := HXL.out; omega) HIN2.out).mono ?_
  rintro e wb ⟨pf, cf, rfl, hrf, hbb⟩
  have HNB := Lib.hid (HN8.out.later hbb)
  clear hrf hbb
  have HNO := Lib.hid (pour_any 1 0 ⟨fun U => ∃ d1 s1 xs1 ys1 up1, Nb ⟨w8, own H d B X F⟩ U H d1 s1 m B X F N (1 + q.room % 6) xs1 ys1 up1 [], fun U => ∃ d1 s1 xs1 ys1 up1, Nb ⟨w8, own H d B X F⟩ U H d1 s1 m B X F N (1 + q.room % 6) xs1 ys1 up1 []⟩ (fun U d1 s1 xs1 ys1 up1 h1 => ⟨d1, s1, xs1, ys1, up1, h1⟩) .nilFunc (.inl rfl) (qX q n nc) (qY q n nc) d (sQ q n nc) q.up [] wb HNB.out (fun U d1 h1 => ⟨rfl, d1, _, _, _, _, h1⟩))
  rw [HKE.out] at HNO
  clear HN8 HKE HBO HOW HXL HIN2
  generalize (poK (coV (sQ q n nc)) 1 (qX q n nc) (qY q n nc).length) = kk at *
  generalize (poR (coV (sQ q n nc)) 1 (qX q n nc) (qY q n nc).length).length = fl at *
  have hk8 : (kk : Int) ≤ 8 := by have := HKL.out; omega
  have hk0 : (0 : Int) ≤ (kk : Int) := by omega
  go_wp2_with (go_at_call 27; fail)
  refine HNO.out.mono ?_
  rintro e w10 ⟨u, rfl, hd⟩
  have HD := Lib.hid hd
  clear hd HNO
  go_wp2_with (go_at_call 18; fail)
  obtain ⟨mt, hmt⟩ : ∃ mt, most.toNat = mt := ⟨_, rfl⟩
  refine (run_few _ kk most u w10 HD.out mt hmt HHK.out HHMO.out (by have := HKL.out; omega)).mono ?_
  rintro e w11 ⟨rfl, hi⟩
  have HI : Hid ((fun U => ∃ d1 s1 xs1 ys1 up1, Nb ⟨w8, own H d B X F⟩ U H d1 s1 m B X F N (1 + q.room % 6) xs1 ys1 up1 []) w11) := Lib.hid hi
  have HMT := Lib.hid hmt
  have hmo := HHMO.out
  have hkp : (0 : Int) < (kk : Int) := by have := HHK.out; omega
  clear hi hmt
  clear HD
  have hmn : min (kk : Int) most = most := by omega
  have hmx : max (0 : Int) most = (mt : Int) := by have := HMT.out; omega
  have hnn : ((mt : Int) != (mt : Int)) = false := by simp
  have hz0 : ((kk : Int) == 0) = false := by rw [beq_eq_false_iff_ne]; omega
  have hge : decide ((kk : Int) ≤ most) = false := decide_eq_false (by omega)
  go_wp2_with (go_at_call 14; fail)
  clear hmn hmx hnn hz0 hge
  refine (new_no_x _ _ _ w11).mono ?_
  rintro e w9 ⟨rfl, hw9⟩
  obtain rfl : w11 = w9 := hw9.symm
  go_wp2_with (go_at_call 14; fail)
  refine (new_no_h _ _ _ w11).mono ?_
  rintro e w9 ⟨rfl, hw9⟩
  obtain rfl : w11 = w9 := hw9.symm
  go_wp2_with (go_at_call 14; fail)
  refine (new_no_b _ _ _ w11).mono ?_
  rintro e w9 ⟨rfl, hw9⟩
  obtain rfl : w11 = w9 := hw9.symm
  go_wp2_with (go_at_call 14; fail)
  refine (new_no_f _ _ _ w11).mono ?_
  rintro e w9 ⟨rfl, hw9⟩
  obtain rfl : w11 = w9 := hw9.symm
  have HB0 : Hid (Below w11.heap.size w11 w11) := Lib.hid (Below.refl _ _)
  go_wp2_with (go_at_call 20; fail)
  refine (once_any _).mono ?_
  rintro e wc1 ⟨rfl, hwc⟩
  have HBC1 : Hid (Below w11.heap.size w11 wc1) := Lib.hid (hwc ▸ HB0.out.alloc HB0.out.size _)
  have HCC1 : Hid (wc1.cell? ⟨w11.heap.size, 0, none⟩ = some .nilFunc) := Lib.hid (by rw [hwc]; exact World.cell?_alloc_new ..)
  clear hwc
  go_wp2_with (go_at_call 19; fail)
  refine (none_Note 1 1 _ _ wc1).mono ?_
  rintro e wd1 ⟨rfl, hbd⟩
  have HBD1 : Hid (Below w11.heap.size w11 wd1) := Lib.hid (HBC1.out.trans (hbd.mono HBC1.out.size))
  have HRD1 := Lib.hid (run_any ⟨fun _ => True, fun U => U = wd1⟩ 1 5 _ wd1 (does_once _ w11.heap.size wd1 ((hbd.cell (p := ⟨w11.heap.size, 0, none⟩) (lt_of_cell HCC1.out)).trans HCC1.out) trivial rfl) (by decide) (by decide))
  clear hbd
  go_wp2_with (go_at_call 18; fail)
  refine HRD1.out.mono ?_
  rintro e we1 ⟨rfl, hwe⟩
  have hwe2 : we1 = wd1 := hwe
  clear hwe HRD1
  obtain rfl : wd1 = we1 := hwe2.symm
  clear HCC1
  go_wp2_with (go_at_call 20; fail)
  refine (once_any _).mono ?_
  rintro e wc2 ⟨rfl, hwc⟩
  have HBC2 : Hid (Below w11.heap.size w11 wc2) := Lib.hid (hwc ▸ HBD1.out.alloc HBD1.out.size _)
  have HCC2 : Hid (wc2.cell? ⟨wd1.heap.size, 0, none⟩ = some .nilFunc) := Lib.hid (by rw [hwc]; exact World.cell?_alloc_new ..)
  clear hwc
  go_wp2_with (go_at_call 27; fail)
  refine (none_Pour 1 _ _ wc2).mono ?_
  rintro e wd2 ⟨rfl, hbd⟩
  have HBD2 : Hid (Below w11.heap.size w11 wd2) := Lib.hid (HBC2.out.trans (hbd.mono HBC2.out.size))
  have HRD2 := Lib.hid (run_any ⟨fun _ => True, fun U => U = wd2⟩ 1 5 _ wd2 (does_once _ wd1.heap.size wd2 ((hbd.cell (p := ⟨wd1.heap.size, 0, none⟩) (lt_of_cell HCC2.out)).trans HCC2.out) trivial rfl) (by decide) (by decide))
  clear hbd
  go_wp2_with (go_at_call 18; fail)
  refine HRD2.out.mono ?_
  rintro e we2 ⟨rfl, hwe⟩
  have hwe2 : we2 = wd2 := hwe
  clear hwe HRD2
  obtain rfl : wd2 = we2 := hwe2.symm
  clear HCC2
  obtain ⟨d1, s1, xs1, ys1, up1, hn1⟩ := HI.out
  have HN1 := Lib.hid (hn1.later HBD2.out)
  clear hn1 HI
  go_wp2_with (go_at_call 30; fail)
  refine (nb_raise HN1.out).mono ?_
  rintro e wr ⟨rfl, hnr⟩
  have HNR := Lib.hid hnr
  clear hnr HN1
  go_wp2_with (go_at_call 30; fail)
  refine (raise_nil wr).mono ?_
  rintro e w9 ⟨rfl, hw9⟩
  obtain rfl : wr = w9 := hw9.symm
  go_wp2_with (go_at_call 25; fail)
  refine (nb_up HNR.out).mono ?_
  rintro e wf1 ⟨rfl, hb1⟩
  have HNR1 := Lib.hid (HNR.out.later hb1)
  clear hb1
  go_wp2_with (go_at_call 31; fail)
  refine (nb_lower_up HNR1.out).mono ?_
  rintro e wf2 ⟨rfl, hn2⟩
  have HNR2 := Lib.hid hn2
  clear hn2
  go_wp2_with (go_at_call 25; fail)
  refine (nb_up HNR2.out).mono ?_
  rintro e wf3 ⟨rfl, hb3⟩
  have HNR3 := Lib.hid (HNR2.out.later hb3)
  clear hb3
  go_wp2_with (go_at_call 31; fail)
  refine (nb_lower_no HNR3.out).mono ?_
  rintro e wf4 ⟨rfl, hb4⟩
  have HNR4 := Lib.hid (HNR3.out.later hb4)
  clear hb4
  go_wp2_with (go_at_call 25; fail)
  refine (up_nil wf4).mono ?_
  rintro e w9 ⟨rfl, hw9⟩
  obtain rfl : wf4 = w9 := hw9.symm
  go_wp2_with (go_at_call 31; fail)
  refine (lower_nil wf4).mono ?_
  rintro e w9 ⟨rfl, hw9⟩
  obtain rfl : wf4 = w9 := hw9.symm
  have HF : Hid (Below V.heap.size V wf4) := Lib.hid (HP8.out.trans (HNR4.out.bel.below HVS.out HP8.out.size))
  go_wp2_with fail
  go_ret
  exact ⟨rfl, HF.out⟩
set_option maxRecDepth 200000 in
set_option maxHeartbeats 8000000 in
theorem runs_great (q : Cs) (most : Int) (n nc S : Nat) (V : World) (hp : Pre q n nc S V) (hgb : gB q = true)  :
    Calls Tryz.prog 5 #[(.agg #[.int .i64 q.c.b, .int .i64 q.c.wd, .int .i64 q.c.m, .int .i64 q.c.r, .int .i64 q.c.ce, .int .i64 q.c.lg, .int .i64 q.c.st, .slice q.pt q.l.length q.ct, .slice q.pb q.bl.length q.cb, .slice q.px q.xl.length q.cx, .int .u8 q.room, .bool q.up]), .int .i64 most] V fun e w' => e = .returned (.bool true) ∧ Below V.heap.size V w' := by
  have HPR := Lib.hid hp
  have HGR : Hid (∀ W, Calls Tryz.prog 11 #[(.agg #[.int .i64 q.c.b, .int .i64 q.c.wd, .int .i64 q.c.m, .int .i64 q.c.r, .int .i64 q.c.ce, .int .i64 q.c.lg, .int .i64 q.c.st, .slice q.pt q.l.length q.ct, .slice q.pb q.bl.length q.cb, .slice q.px q.xl.length q.cx, .int .u8 q.room, .bool q.up])] W fun e w' => e = .returned (.bool true) ∧ Below W.heap.size W w') := Lib.hid fun W => by
    have h := great_any q W
    rw [hgb] at h
    exact h
  obtain ⟨V1, hV1⟩ : ∃ V1, V.alloc (.cells #[.int .i64 q.c.b, .int .i64 q.c.wd, .int .i64 q.c.m, .int .i64 q.c.r, .int .i64 q.c.ce, .int .i64 q.c.lg, .int .i64 q.c.st, .slice q.pt q.l.length q.ct, .slice q.pb q.bl.length q.cb, .slice q.px q.xl.length q.cx, .int .u8 q.room, .bool q.up] 27) = V1 := ⟨_, rfl⟩
  have HC1 : Hid (CaseAt q V1 V.heap.size) := Lib.hid (hV1 ▸ CaseAt.new q V)
  have HB1 : Hid (Below V.heap.size V V1) := Lib.hid (by rw [← hV1]; exact (Below.refl _ _).alloc (Nat.le_refl _) _)
  have HBV : Hid (∀ U, Below V1.heap.size V1 U → Below V.heap.size V U) := Lib.hid fun U hU => HB1.out.trans (hU.mono HB1.out.size)
  clear hp hgb
  obtain ⟨k0, k1, k2, k3, k4, k5, k6, k7, k8, k9, k10, k11⟩ := HC1.out
  go_enter Tryz.func5, Tryz.ntmps5
  go_wp2_with fail
  refine (HGR.out _).mono ?_
  rintro e w2 ⟨rfl, hb2⟩
  have HP2 : Hid (Below V1.heap.size V1 w2) := Lib.hid hb2
  clear hb2 HGR k0 k1 k2 k3 k4 k5 k6 k7 k8 k9 k10 k11
  go_wp2_with (go_at_call 12; fail)
  refine (awake_any _ (HPR.out.ht.later (HBV.out _ HP2.out))).mono ?_
  rintro e w3 ⟨rfl, hb3⟩
  have HP3 : Hid (Below V.heap.size V w3) := Lib.hid (HBV.out _ (HP2.out.trans (hb3.mono HP2.out.size)))
  clear hb3
  go_wp2_with fail
  go_ret
  exact ⟨rfl, HP3.out⟩
theorem runs_walk (q : Cs) (most : Int) (V : World) (ht : Tabs V) (hq : CsP V.heap.size V q) :
    Calls Tryz.prog 5 #[(.agg #[.int .i64 q.c.b, .int .i64 q.c.wd, .int .i64 q.c.m, .int .i64 q.c.r, .int .i64 q.c.ce, .int .i64 q.c.lg, .int .i64 q.c.st, .slice q.pt q.l.length q.ct, .slice q.pb q.bl.length q.cb, .slice q.px q.xl.length q.cx, .int .u8 q.room, .bool q.up]), .int .i64 most] V fun e w' => e = .returned (.bool true) ∧ Below V.heap.size V w' := by
  obtain ⟨n, nc, hp⟩ := pre_of ht hq
  cases hgb : gB q with
  | true => exact runs_great q most n nc _ V hp hgb
  | false =>
    by_cases hk : (poK (coV (sQ q n nc)) 1 (qX q n nc) (qY q n nc).length) = 0
    · exact runs_E q most n nc _ V hp hgb hk
    · by_cases hm : ((poK (coV (sQ q n nc)) 1 (qX q n nc) (qY q n nc).length) : Int) ≤ most
      · exact runs_F q most n nc _ V hp hgb (by omega) hm
      · exact runs_G q most n nc _ V hp hgb (by omega) (by omega)
end Go.Proofs.YtkfgchhlekdpgaaGreatDoor.Nt
