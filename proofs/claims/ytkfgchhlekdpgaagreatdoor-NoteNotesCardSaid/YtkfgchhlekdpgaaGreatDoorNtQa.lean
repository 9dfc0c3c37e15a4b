/-
  NoteNotes, by the color 0.
-/
import Derived.Test.YtkfgchhlekdpgaaGreatDoorNtQ
namespace Go.Proofs.YtkfgchhlekdpgaaGreatDoor.Nt
open Go.RowKit
open Class (below_drewN)
open Hp (Ids St Is To Mine bnI bn coE coV colB objL st0)
open Lg (BfIs BxIs)
open Blk (Cfg little BytesP)
open Sw (ThingsP madeS Sm)
open Go.Proofs.YtkfgchhlekdpgaaGreatDoor.Row (Chg rowB Rd Rd0 cellsZ)
open Go.Proofs.YtkfgchhlekdpgaaGreatDoor.Addr (Tabs)

set_option maxRecDepth 200000 in
set_option maxHeartbeats 8000000 in
theorem notes_Z0 (q : Cs) (v : Int) (n nc S : Nat) (V : World) (hp : Pre q n nc S V) (hgb : gB q = false) (hv : v = 0) :
    Calls Tryz.prog 3 #[(.agg #[.int .i64 q.c.b, .int .i64 q.c.wd, .int .i64 q.c.m, .int .i64 q.c.r, .int .i64 q.c.ce, .int .i64 q.c.lg, .int .i64 q.c.st, .slice q.pt q.l.length q.ct, .slice q.pb q.bl.length q.cb, .slice q.px q.xl.length q.cx, .int .u8 q.room, .bool q.up]), .int .i64 v, .bool false] V fun e w' => e = .returned (.bool true) ∧ Below V.heap.size V w' := by
  have HPR := Lib.hid hp
  have HHV := Lib.hid hv
  clear hv
  have HGR : Hid (∀ W, Calls Tryz.prog 11 #[(.agg #[.int .i64 q.c.b, .int .i64 q.c.wd, .int .i64 q.c.m, .int .i64 q.c.r, .int .i64 q.c.ce, .int .i64 q.c.lg, .int .i64 q.c.st, .slice q.pt q.l.length q.ct, .slice q.pb q.bl.length q.cb, .slice q.px q.xl.length q.cx, .int .u8 q.room, .bool q.up])] W fun e w' => e = .returned (.bool false) ∧ Below W.heap.size W w') := Lib.hid fun W => by
    have h := great_any q W
    rw [hgb] at h
    exact h
  obtain ⟨V1, hV1⟩ : ∃ V1, V.alloc (.cells #[.int .i64 q.c.b, .int .i64 q.c.wd, .int .i64 q.c.m, .int .i64 q.c.r, .int .i64 q.c.ce, .int .i64 q.c.lg, .int .i64 q.c.st, .slice q.pt q.l.length q.ct, .slice q.pb q.bl.length q.cb, .slice q.px q.xl.length q.cx, .int .u8 q.room, .bool q.up] 27) = V1 := ⟨_, rfl⟩
  have HC1 : Hid (CaseAt q V1 V.heap.size) := Lib.hid (hV1 ▸ CaseAt.new q V)
  have HB1 : Hid (Below V.heap.size V V1) := Lib.hid (by rw [← hV1]; exact (Below.refl _ _).alloc (Nat.le_refl _) _)
  have HBV : Hid (∀ U, Below V1.heap.size V1 U → Below V.heap.size V U) := Lib.hid fun U hU => HB1.out.trans (hU.mono HB1.out.size)
  clear hp hgb
  obtain ⟨k0, k1, k2, k3, k4, k5, k6, k7, k8, k9, k10, k11⟩ := HC1.out
  go_enter Tryz.func3, Tryz.ntmps3
  go_wp2_with fail
  refine (HGR.out _).mono ?_
  rintro e w2 ⟨rfl, hb2⟩
  have HP2 : Hid (Below V1.heap.size V1 w2) := Lib.hid hb2
  clear hb2 HGR k0 k1 k2 k3 k4 k5 k6 k7 k8 k9 k10 k11
  go_wp2_with (go_at_call 12; fail)
  refine (awake_any _ (HPR.out.ht.later (HBV.out _ HP2.out))).mono ?_
  rintro e w3 ⟨rfl, hb3⟩
  have HP3 : Hid (Below V1.heap.size V1 w3) := Lib.hid (HP2.out.trans (hb3.mono HP2.out.size))
  clear hb3 HP2
  obtain ⟨k0, k1, k2, k3, k4, k5, k6, k7, k8, k9, k10, k11⟩ := HC1.out.later HP3.out
  go_wp2_with (go_at_call 13; fail)
  refine ((HPR.out.later (HBV.out _ HP3.out)).parts).mono ?_
  rintro e w4 ⟨H, B, X, F, d, m, rfl, hp, hm, hsm⟩
  have HPB := Lib.hid hp
  have HLE : Hid ((objL (sQ q n nc)).length ≤ 1000) := Lib.hid (obj_le hsm)
  have HP4 : Hid (Below V1.heap.size V1 w4) := Lib.hid (HP3.out.trans (hp.bel.mono HP3.out.size))
  clear hp hm hsm k0 k1 k2 k3 k4 k5 k6 k7 k8 k9 k10 k11
  go_wp2_with (go_at_call 14; fail)
  refine (new_any HPB.out).mono ?_
  rintro e w5 ⟨rfl, hn5⟩
  generalize w4.heap.size = N at *
  have HP5 : Hid (Below V1.heap.size V1 w5) := Lib.hid (HP3.out.trans ((hn5.bel.below (fun _ e => e.elim) (Nat.le_refl _)).mono HP3.out.size))
  have HN5 := Lib.hid hn5
  have HGE : Hid (∀ k, own H d B X F k → V.heap.size < k) := Lib.hid fun k hk => by
    have h1 := HPB.out.ge k hk
    have h2 := HP3.out.size
    have h3 := HC1.out.lt
    omega
  clear hn5 HPB
  go_wp2_with (go_at_call 15; fail)
  refine (colors_any w5 HN5.out.is (HPR.out.ht.later (HBV.out _ HP5.out)) (by have := HLE.out; omega)).mono ?_
  rintro e w6 ⟨p1, c1, p2, c2, rfl, hr1, hr2, hb6, hg6⟩
  have HR1 := Lib.hid hr1
  have HR2 := Lib.hid hr2
  have HG6 : Hid (∀ g, rowB p1 g ∨ rowB p2 g → ¬ own H d B X F g) := Lib.hid fun g hg hk => by
    have h1 := hg6 g hg
    have h2 := HN5.out.lt hk
    omega
  have HN6 := Lib.hid (HN5.out.later hb6)
  have HP6 : Hid (Below V1.heap.size V1 w6) := Lib.hid (HP5.out.trans (hb6.mono HP5.out.size))
  clear hr1 hr2 hb6 hg6 HN5
  have HCL : Hid ((coL (sQ q n nc)).length = (objL (sQ q n nc)).length) := Lib.hid (by simp [coL])
  have HALL := Lib.hid (fun U (hU : Below w6.heap.size w6 U) => nb_all (HN6.out.later hU))
  have HLEN := Lib.hid (fun U (hU : Below w6.heap.size w6 U) => nb_blen (HN6.out.later hU))
  have HK : Hid (∀ U, Below w6.heap.size w6 U → U.cell? ⟨V.heap.size, 10, none⟩ = some (.int .u8 q.room)) := Lib.hid fun U hU => (HC1.out.later (HP6.out.trans (hU.mono HP6.out.size))).2.2.2.2.2.2.2.2.2.2.1
  have HD0 : Hid (Below w6.heap.size w6 w6) := Lib.hid (Below.refl _ _)
  have HD1 : Hid (Below w6.heap.size w6 w6.drew) := Lib.hid (Below.refl _ _).drew
  have hrz : q.room < 256 := HPR.out.hq.r
  have hz6 : (q.room : Int) % 6 = ((q.room % 6 : Nat) : Int) := by omega
  go_wp2_with fail
  go_region_held3 (fun U => U.cell? ⟨V.heap.size, 10, none⟩ = some (.int .u8 q.room))
    (first | exact HK.out _ HD0.out | exact HK.out _ HD1.out | exact HK.out _ HX7.out | exact HK.out _ HX8.out)
    (first
      | (go_at_call 16; refine (HALL.out _ (by first | exact HD0.out | exact HD1.out)).mono ?_; rintro e w7 ⟨p3, c3, rfl, hr3, hb7, hg3⟩; have HR3 := Lib.hid hr3; have HX7 : Hid (Below w6.heap.size w6 w7) := Lib.hid (by first | exact HD1.out.trans hb7 | exact HD0.out.trans hb7); have HG3 : Hid (∀ g, rowB p3 g → w6.heap.size ≤ g) := Lib.hid hg3; clear hr3 hb7 hg3)
      | (go_at_call 17; refine (HLEN.out _ HX7.out).mono ?_; rintro e w8 ⟨rfl, hb8⟩; have HX8 : Hid (Below w6.heap.size w6 w8) := Lib.hid (HX7.out.trans (hb8.mono HX7.out.size)); have HY8 : Hid (Below w7.heap.size w7 w8) := Lib.hid hb8; clear hb8))
  rename_i hdrop
  clear hdrop
  rw [sum6 q.room hrz]
  have HN8 := Lib.hid ((HN6.out.later HX8.out).rebase (HPR.out.ht.later (HBV.out _ (HP6.out.trans (HX8.out.mono HP6.out.size)))))
  have HP8 : Hid (Below V.heap.size V w8) := Lib.hid (HBV.out _ (HP6.out.trans (HX8.out.mono HP6.out.size)))
  have HL8 : Hid (Lc w8 q V.heap.size p1 p2 p3 (objL (sQ q n nc)) (coL (sQ q n nc)) (qX q n nc)) := Lib.hid ⟨HR1.out.later HX8.out, HR2.out.later HX8.out, HR3.out.later HY8.out, HC1.out.later (HP6.out.trans (HX8.out.mono HP6.out.size))⟩
  have HOW : Hid (∀ g, (rowB p1 g ∨ rowB p2 g ∨ rowB p3 g) → ¬ own H d B X F g) := Lib.hid fun g hg hk => by
    rcases hg with hg | hg | hg
    · exact HG6.out g (.inl hg) hk
    · exact HG6.out g (.inr hg) hk
    · have h1 := HG3.out g hg
      have h2 := HN6.out.lt hk
      omega
  have HBO : Hid (¬ own H d B X F V.heap.size) := Lib.hid fun e => by have := HGE.out _ e; omega
  have HVS : Hid (∀ k, own H d B X F k → V.heap.size ≤ k) := Lib.hid fun k e => by have := HGE.out _ e; omega
  clear HK HALL HLEN HR1 HR2 HR3 HG3 HG6 HN6 HX7 HX8 HY8 HD0 HD1 HP6 HP5 HP4 HC1 HB1 HBV hrz hz6 HGE
  have hqx : addsL (1 + q.room % 6) (objL (sQ q n nc)) q.bl = qX q n nc := rfl
  have hqy : addsL 256 (objL (sQ q n nc)) q.xl = qY q n nc := rfl
  rw [hqx, hqy] at *
  clear hqx hqy
  have hv := HHV.out
  have his := HN8.out.is
  have hxl : (qX q n nc).length ≤ 6 := by
    have := addsL_len (r := 1 + q.room % 6) (al := objL (sQ q n nc)) (zs := q.bl)
    unfold qX
    omega
  have hsk : nSkip 0 (sQ q n nc) v := .inl hv
  have HKE : Hid (nK 0 (sQ q n nc) v (1 + q.room % 6) (qX q n nc) (qY q n nc) = 0) := Lib.hid (by unfold nK; rw [if_pos hv])
  have HSE : Hid (nS 0 (sQ q n nc) v (1 + q.room % 6) (qX q n nc) (qY q n nc) = (sQ q n nc)) := Lib.hid (by unfold nS; rw [if_pos hsk])
  have HXE : Hid (nX 0 (sQ q n nc) v (1 + q.room % 6) (qX q n nc) = (qX q n nc)) := Lib.hid (by unfold nX; rw [if_pos hsk])
  have HUE : Hid (nU 0 (sQ q n nc) v (1 + q.room % 6) (qX q n nc) (qY q n nc) q.up = q.up) := Lib.hid (by unfold nU; rw [if_pos hsk])
  have HKL : Hid (0 + 1 ≤ 1000) := Lib.hid (by decide)
  have HXR : Hid ((qX q n nc).length ≤ 1 + q.room % 6) := Lib.hid addsL_len
  have HXL := Lib.hid hxl
  clear his hxl hsk
  clear hv
  go_wp2_with (go_at_call 20; fail)
  refine (once_any _).mono ?_
  rintro e w9 ⟨rfl, hw9⟩
  have HN9 : Hid (Nb ⟨w8, own H d B X F⟩ w9 H d (sQ q n nc) m B X F N (1 + q.room % 6) (qX q n nc) (qY q n nc) q.up [(w8.heap.size, .nilFunc)]) := Lib.hid (by
    rw [hw9]
    exact (HN8.out.later ((Below.refl _ _).alloc (Nat.le_refl _) _)).box (World.cell?_alloc_new ..) (HN8.out.not_new (Nat.le_refl _)))
  clear hw9
  have HNO := Lib.hid (note_any v 0 1 ⟨fun _ => True, fun U => ∃ d', Nb ⟨w8, own H d B X F⟩ U H d' (nS 0 (sQ q n nc) v (1 + q.room % 6) (qX q n nc) (qY q n nc)) m B X F N (1 + q.room % 6) (nX 0 (sQ q n nc) v (1 + q.room % 6) (qX q n nc)) (nY 0 (sQ q n nc) v (1 + q.room % 6) (qX q n nc) (qY q n nc)) (nU 0 (sQ q n nc) v (1 + q.room % 6) (qX q n nc) (qY q n nc) q.up) [(w8.heap.size, .nilFunc)]⟩ (fun _ _ _ _ _ _ _ => trivial) (.func (.func 76) #[] #[.pointer (some ⟨w8.heap.size, 0, none⟩)]) (.inr ⟨_, _, rfl⟩) (qX q n nc) (qY q n nc) d (sQ q n nc) q.up [(w8.heap.size, .nilFunc)] w9 HN9.out (fun U d' h => does_once _ w8.heap.size U (h.at (by simp)) trivial ⟨d', h⟩))
  rw [HKE.out] at HNO
  go_wp2_with (go_at_call 19; fail)
  refine HNO.out.mono ?_
  rintro e w10 ⟨u, rfl, hd⟩
  have HRN := Lib.hid (run_any _ _ 1000 u w10 hd HKL.out (by decide))
  clear hd HNO
  go_wp2_with (go_at_call 18; fail)
  refine HRN.out.mono ?_
  rintro e w11 ⟨rfl, d2, hn11⟩
  rw [HSE.out, HXE.out, HUE.out] at hn11
  have HN11 := Lib.hid hn11
  have HL11 : Hid (Lc w11 q V.heap.size p1 p2 p3 (objL (sQ q n nc)) (coL (sQ q n nc)) (qX q n nc)) := Lib.hid (HL8.out.chg hn11.bel HBO.out HOW.out)
  have HP11 : Hid (Below V.heap.size V w11) := Lib.hid (HP8.out.trans (hn11.bel.below HVS.out HP8.out.size))
  have HBQ : Hid (∀ n, Below w11.heap.size w11 (w11.drewN n)) := Lib.hid fun n => below_drewN (Below.refl _ _) n
  have HBD : Hid (Below w11.heap.size w11 w11.drew) := Lib.hid (Below.refl _ _).drew
  clear hn11 HRN HN9 HN8 HL8 HP8 HOW HBO HVS HKE HKL HSE HXE HUE
  have k11 := HL11.out.cs.2.2.2.2.2.2.2.2.2.2.2
  obtain ⟨rm, hrm, hrm1, hrm6⟩ : ∃ rm : Nat, 1 + (q.room : Int) % 6 = (rm : Int) ∧ 1 ≤ rm ∧ rm ≤ 6 := ⟨1 + q.room % 6, by omega, by omega, by omega⟩
  have HRM : Hid (rm = 1 + q.room % 6) := Lib.hid (by omega)
  go_wp2_with fail
  have rm1 : (1 : Int) ≤ rm := by omega
  have rm6 : (rm : Int) ≤ 6 := by omega
  clear hrm hrm1 hrm6
  have hvb : (v == 0) = true := by rw [HHV.out]; rfl
  go_quiet (fail)
  obtain ⟨wx, hwx⟩ : ∃ wx, w11.drewN nq = wx := ⟨_, rfl⟩
  rw [hwx]
  have HNX : Hid (Nb ⟨w8, own H d B X F⟩ wx H d2 (sQ q n nc) m B X F N (1 + q.room % 6) (qX q n nc) (nY 0 (sQ q n nc) v (1 + q.room % 6) (qX q n nc) (qY q n nc)) q.up [(w8.heap.size, .nilFunc)]) := Lib.hid (hwx ▸ HN11.out.later (HBQ.out nq))
  have HLX : Hid (Lc wx q V.heap.size p1 p2 p3 (objL (sQ q n nc)) (coL (sQ q n nc)) (qX q n nc)) := Lib.hid (hwx ▸ HL11.out.later (HBQ.out nq))
  have HPX : Hid (Below V.heap.size V wx) := Lib.hid (hwx ▸ HP11.out.trans ((HBQ.out nq).mono HP11.out.size))
  have HRF : Hid (Below wx.heap.size wx wx) := Lib.hid (Below.refl _ _)
  clear hwx k11 HN11 HL11 HP11 HBQ HBD
  go_wp2_with (go_at_call 16; fail)
  refine (nb_all HNX.out).mono ?_
  rintro e w13 ⟨p5, c5, rfl, hr5, hb13, _⟩
  have HB13 : Hid (Below wx.heap.size wx w13) := Lib.hid hb13
  have HR5 := Lib.hid hr5
  clear hb13 hr5
  go_wp2_with (go_at_call 24; fail)
  refine (Row.same_any p5 p3 c5 c3 (qX q n nc) w13 HR5.out (HLX.out.r3.later HB13.out) (by have := HXL.out; omega)).mono ?_
  rintro e w14 ⟨rfl, nz, hw14⟩
  have HB14 : Hid (Below wx.heap.size wx w14) := Lib.hid (hw14 ▸ below_drewN HB13.out nz)
  clear hw14
  go_wp2_with (go_at_call 25; fail)
  refine (nb_up (HNX.out.later HB14.out)).mono ?_
  rintro e w15 ⟨rfl, hb15⟩
  have HB15 : Hid (Below wx.heap.size wx w15) := Lib.hid (HB14.out.trans (hb15.mono HB14.out.size))
  clear hb15
  have hub : (q.up == q.up) = true := by simp
  go_wp2_with (go_at_call 26; fail)
  refine (painted_any (coV (sQ q n nc)) 0 (objL (sQ q n nc)) [] p1 p2 none c1 c2 0 w15 (HNX.out.later HB15.out).is (HLX.out.r1.later HB15.out) (HLX.out.r2.later HB15.out) (Rd.nil _) (by have := HLE.out; omega) (by simp) (fun a ha => ⟨coE_in ((obj_mem HNX.out.is).1 ha), by rw [if_neg (by simp)]⟩)).mono ?_
  rintro e w16 ⟨rfl, hb16⟩
  have HB16 : Hid (Below V.heap.size V w16) := Lib.hid (HPX.out.trans ((HB15.out.trans (hb16.mono HB15.out.size)).mono HPX.out.size))
  clear hb16
  go_wp2_with fail
  go_ret
  exact ⟨rfl, HB16.out⟩

set_option maxRecDepth 200000 in
set_option maxHeartbeats 8000000 in
theorem notes_I0 (q : Cs) (v : Int) (n nc S : Nat) (V : World) (hp : Pre q n nc S V) (hgb : gB q = false) (hv : v ≠ 0) (hi : v ∉ objL (sQ q n nc)) :
    Calls Tryz.prog 3 #[(.agg #[.int .i64 q.c.b, .int .i64 q.c.wd, .int .i64 q.c.m, .int .i64 q.c.r, .int .i64 q.c.ce, .int .i64 q.c.lg, .int .i64 q.c.st, .slice q.pt q.l.length q.ct, .slice q.pb q.bl.length q.cb, .slice q.px q.xl.length q.cx, .int .u8 q.room, .bool q.up]), .int .i64 v, .bool false] V fun e w' => e = .returned (.bool true) ∧ Below V.heap.size V w' := by
  have HPR := Lib.hid hp
  have HHV := Lib.hid hv
  have HHI := Lib.hid hi
  clear hv hi
  have HGR : Hid (∀ W, Calls Tryz.prog 11 #[(.agg #[.int .i64 q.c.b, .int .i64 q.c.wd, .int .i64 q.c.m, .int .i64 q.c.r, .int .i64 q.c.ce, .int .i64 q.c.lg, .int .i64 q.c.st, .slice q.pt q.l.length q.ct, .slice q.pb q.bl.length q.cb, .slice q.px q.xl.length q.cx, .int .u8 q.room, .bool q.up])] W fun e w' => e = .returned (.bool false) ∧ Below W.heap.size W w') := Lib.hid fun W => by
    have h := great_any q W
    rw [hgb] at h
    exact h
  obtain ⟨V1, hV1⟩ : ∃ V1, V.alloc (.cells #[.int .i64 q.c.b, .int .i64 q.c.wd, .int .i64 q.c.m, .int .i64 q.c.r, .int .i64 q.c.ce, .int .i64 q.c.lg, .int .i64 q.c.st, .slice q.pt q.l.length q.ct, .slice q.pb q.bl.length q.cb, .slice q.px q.xl.length q.cx, .int .u8 q.room, .bool q.up] 27) = V1 := ⟨_, rfl⟩
  have HC1 : Hid (CaseAt q V1 V.heap.size) := Lib.hid (hV1 ▸ CaseAt.new q V)
  have HB1 : Hid (Below V.heap.size V V1) := Lib.hid (by rw [← hV1]; exact (Below.refl _ _).alloc (Nat.le_refl _) _)
  have HBV : Hid (∀ U, Below V1.heap.size V1 U → Below V.heap.size V U) := Lib.hid fun U hU => HB1.out.trans (hU.mono HB1.out.size)
  clear hp hgb
  obtain ⟨k0, k1, k2, k3, k4, k5, k6, k7, k8, k9, k10, k11⟩ := HC1.out
  go_enter Tryz.func3, Tryz.ntmps3
  go_wp2_with fail
  refine (HGR.out _).mono ?_
  rintro e w2 ⟨rfl, hb2⟩
  have HP2 : Hid (Below V1.heap.size V1 w2) := Lib.hid hb2
  clear hb2 HGR k0 k1 k2 k3 k4 k5 k6 k7 k8 k9 k10 k11
  go_wp2_with (go_at_call 12; fail)
  refine (awake_any _ (HPR.out.ht.later (HBV.out _ HP2.out))).mono ?_
  rintro e w3 ⟨rfl, hb3⟩
  have HP3 : Hid (Below V1.heap.size V1 w3) := Lib.hid (HP2.out.trans (hb3.mono HP2.out.size))
  clear hb3 HP2
  obtain ⟨k0, k1, k2, k3, k4, k5, k6, k7, k8, k9, k10, k11⟩ := HC1.out.later HP3.out
  go_wp2_with (go_at_call 13; fail)
  refine ((HPR.out.later (HBV.out _ HP3.out)).parts).mono ?_
  rintro e w4 ⟨H, B, X, F, d, m, rfl, hp, hm, hsm⟩
  have HPB := Lib.hid hp
  have HLE : Hid ((objL (sQ q n nc)).length ≤ 1000) := Lib.hid (obj_le hsm)
  have HP4 : Hid (Below V1.heap.size V1 w4) := Lib.hid (HP3.out.trans (hp.bel.mono HP3.out.size))
  clear hp hm hsm k0 k1 k2 k3 k4 k5 k6 k7 k8 k9 k10 k11
  go_wp2_with (go_at_call 14; fail)
  refine (new_any HPB.out).mono ?_
  rintro e w5 ⟨rfl, hn5⟩
  generalize w4.heap.size = N at *
  have HP5 : Hid (Below V1.heap.size V1 w5) := Lib.hid (HP3.out.trans ((hn5.bel.below (fun _ e => e.elim) (Nat.le_refl _)).mono HP3.out.size))
  have HN5 := Lib.hid hn5
  have HGE : Hid (∀ k, own H d B X F k → V.heap.size < k) := Lib.hid fun k hk => by
    have h1 := HPB.out.ge k hk
    have h2 := HP3.out.size
    have h3 := HC1.out.lt
    omega
  clear hn5 HPB
  go_wp2_with (go_at_call 15; fail)
  refine (colors_any w5 HN5.out.is (HPR.out.ht.later (HBV.out _ HP5.out)) (by have := HLE.out; omega)).mono ?_
  rintro e w6 ⟨p1, c1, p2, c2, rfl, hr1, hr2, hb6, hg6⟩
  have HR1 := Lib.hid hr1
  have HR2 := Lib.hid hr2
  have HG6 : Hid (∀ g, rowB p1 g ∨ rowB p2 g → ¬ own H d B X F g) := Lib.hid fun g hg hk => by
    have h1 := hg6 g hg
    have h2 := HN5.out.lt hk
    omega
  have HN6 := Lib.hid (HN5.out.later hb6)
  have HP6 : Hid (Below V1.heap.size V1 w6) := Lib.hid (HP5.out.trans (hb6.mono HP5.out.size))
  clear hr1 hr2 hb6 hg6 HN5
  have HCL : Hid ((coL (sQ q n nc)).length = (objL (sQ q n nc)).length) := Lib.hid (by simp [coL])
  have HALL := Lib.hid (fun U (hU : Below w6.heap.size w6 U) => nb_all (HN6.out.later hU))
  have HLEN := Lib.hid (fun U (hU : Below w6.heap.size w6 U) => nb_blen (HN6.out.later hU))
  have HK : Hid (∀ U, Below w6.heap.size w6 U → U.cell? ⟨V.heap.size, 10, none⟩ = some (.int .u8 q.room)) := Lib.hid fun U hU => (HC1.out.later (HP6.out.trans (hU.mono HP6.out.size))).2.2.2.2.2.2.2.2.2.2.1
  have HD0 : Hid (Below w6.heap.size w6 w6) := Lib.hid (Below.refl _ _)
  have HD1 : Hid (Below w6.heap.size w6 w6.drew) := Lib.hid (Below.refl _ _).drew
  have hrz : q.room < 256 := HPR.out.hq.r
  have hz6 : (q.room : Int) % 6 = ((q.room % 6 : Nat) : Int) := by omega
  go_wp2_with fail
  go_region_held3 (fun U => U.cell? ⟨V.heap.size, 10, none⟩ = some (.int .u8 q.room))
    (first | exact HK.out _ HD0.out | exact HK.out _ HD1.out | exact HK.out _ HX7.out | exact HK.out _ HX8.out)
    (first
      | (go_at_call 16; refine (HALL.out _ (by first | exact HD0.out | exact HD1.out)).mono ?_; rintro e w7 ⟨p3, c3, rfl, hr3, hb7, hg3⟩; have HR3 := Lib.hid hr3; have HX7 : Hid (Below w6.heap.size w6 w7) := Lib.hid (by first | exact HD1.out.trans hb7 | exact HD0.out.trans hb7); have HG3 : Hid (∀ g, rowB p3 g → w6.heap.size ≤ g) := Lib.hid hg3; clear hr3 hb7 hg3)
      | (go_at_call 17; refine (HLEN.out _ HX7.out).mono ?_; rintro e w8 ⟨rfl, hb8⟩; have HX8 : Hid (Below w6.heap.size w6 w8) := Lib.hid (HX7.out.trans (hb8.mono HX7.out.size)); have HY8 : Hid (Below w7.heap.size w7 w8) := Lib.hid hb8; clear hb8))
  rename_i hdrop
  clear hdrop
  rw [sum6 q.room hrz]
  have HN8 := Lib.hid ((HN6.out.later HX8.out).rebase (HPR.out.ht.later (HBV.out _ (HP6.out.trans (HX8.out.mono HP6.out.size)))))
  have HP8 : Hid (Below V.heap.size V w8) := Lib.hid (HBV.out _ (HP6.out.trans (HX8.out.mono HP6.out.size)))
  have HL8 : Hid (Lc w8 q V.heap.size p1 p2 p3 (objL (sQ q n nc)) (coL (sQ q n nc)) (qX q n nc)) := Lib.hid ⟨HR1.out.later HX8.out, HR2.out.later HX8.out, HR3.out.later HY8.out, HC1.out.later (HP6.out.trans (HX8.out.mono HP6.out.size))⟩
  have HOW : Hid (∀ g, (rowB p1 g ∨ rowB p2 g ∨ rowB p3 g) → ¬ own H d B X F g) := Lib.hid fun g hg hk => by
    rcases hg with hg | hg | hg
    · exact HG6.out g (.inl hg) hk
    · exact HG6.out g (.inr hg) hk
    · have h1 := HG3.out g hg
      have h2 := HN6.out.lt hk
      omega
  have HBO : Hid (¬ own H d B X F V.heap.size) := Lib.hid fun e => by have := HGE.out _ e; omega
  have HVS : Hid (∀ k, own H d B X F k → V.heap.size ≤ k) := Lib.hid fun k e => by have := HGE.out _ e; omega
  clear HK HALL HLEN HR1 HR2 HR3 HG3 HG6 HN6 HX7 HX8 HY8 HD0 HD1 HP6 HP5 HP4 HC1 HB1 HBV hrz hz6 HGE
  have hqx : addsL (1 + q.room % 6) (objL (sQ q n nc)) q.bl = qX q n nc := rfl
  have hqy : addsL 256 (objL (sQ q n nc)) q.xl = qY q n nc := rfl
  rw [hqx, hqy] at *
  clear hqx hqy
  have hv := HHV.out
  have hi := HHI.out
  have his := HN8.out.is
  have hxl : (qX q n nc).length ≤ 6 := by
    have := addsL_len (r := 1 + q.room % 6) (al := objL (sQ q n nc)) (zs := q.bl)
    unfold qX
    omega
  have hsk : nSkip 0 (sQ q n nc) v := .inr (.inl (coE_out (fun e => hi ((obj_mem his).2 e))))
  have HKE : Hid (nK 0 (sQ q n nc) v (1 + q.room % 6) (qX q n nc) (qY q n nc) = 1) := Lib.hid (by unfold nK; rw [if_neg hv, if_pos hsk])
  have HSE : Hid (nS 0 (sQ q n nc) v (1 + q.room % 6) (qX q n nc) (qY q n nc) = (sQ q n nc)) := Lib.hid (by unfold nS; rw [if_pos hsk])
  have HXE : Hid (nX 0 (sQ q n nc) v (1 + q.room % 6) (qX q n nc) = (qX q n nc)) := Lib.hid (by unfold nX; rw [if_pos hsk])
  have HUE : Hid (nU 0 (sQ q n nc) v (1 + q.room % 6) (qX q n nc) (qY q n nc) q.up = q.up) := Lib.hid (by unfold nU; rw [if_pos hsk])
  have HKL : Hid (1 + 1 ≤ 1000) := Lib.hid (by decide)
  have HXR : Hid ((qX q n nc).length ≤ 1 + q.room % 6) := Lib.hid addsL_len
  have HXL := Lib.hid hxl
  clear his hxl hsk
  clear hv hi
  go_wp2_with (go_at_call 20; fail)
  refine (once_any _).mono ?_
  rintro e w9 ⟨rfl, hw9⟩
  have HN9 : Hid (Nb ⟨w8, own H d B X F⟩ w9 H d (sQ q n nc) m B X F N (1 + q.room % 6) (qX q n nc) (qY q n nc) q.up [(w8.heap.size, .nilFunc)]) := Lib.hid (by
    rw [hw9]
    exact (HN8.out.later ((Below.refl _ _).alloc (Nat.le_refl _) _)).box (World.cell?_alloc_new ..) (HN8.out.not_new (Nat.le_refl _)))
  clear hw9
  have HNO := Lib.hid (note_any v 0 1 ⟨fun _ => True, fun U => ∃ d', Nb ⟨w8, own H d B X F⟩ U H d' (nS 0 (sQ q n nc) v (1 + q.room % 6) (qX q n nc) (qY q n nc)) m B X F N (1 + q.room % 6) (nX 0 (sQ q n nc) v (1 + q.room % 6) (qX q n nc)) (nY 0 (sQ q n nc) v (1 + q.room % 6) (qX q n nc) (qY q n nc)) (nU 0 (sQ q n nc) v (1 + q.room % 6) (qX q n nc) (qY q n nc) q.up) [(w8.heap.size, .nilFunc)]⟩ (fun _ _ _ _ _ _ _ => trivial) (.func (.func 76) #[] #[.pointer (some ⟨w8.heap.size, 0, none⟩)]) (.inr ⟨_, _, rfl⟩) (qX q n nc) (qY q n nc) d (sQ q n nc) q.up [(w8.heap.size, .nilFunc)] w9 HN9.out (fun U d' h => does_once _ w8.heap.size U (h.at (by simp)) trivial ⟨d', h⟩))
  rw [HKE.out] at HNO
  go_wp2_with (go_at_call 19; fail)
  refine HNO.out.mono ?_
  rintro e w10 ⟨u, rfl, hd⟩
  have HRN := Lib.hid (run_any _ _ 1000 u w10 hd HKL.out (by decide))
  clear hd HNO
  go_wp2_with (go_at_call 18; fail)
  refine HRN.out.mono ?_
  rintro e w11 ⟨rfl, d2, hn11⟩
  rw [HSE.out, HXE.out, HUE.out] at hn11
  have HN11 := Lib.hid hn11
  have HL11 : Hid (Lc w11 q V.heap.size p1 p2 p3 (objL (sQ q n nc)) (coL (sQ q n nc)) (qX q n nc)) := Lib.hid (HL8.out.chg hn11.bel HBO.out HOW.out)
  have HP11 : Hid (Below V.heap.size V w11) := Lib.hid (HP8.out.trans (hn11.bel.below HVS.out HP8.out.size))
  have HBQ : Hid (∀ n, Below w11.heap.size w11 (w11.drewN n)) := Lib.hid fun n => below_drewN (Below.refl _ _) n
  have HBD : Hid (Below w11.heap.size w11 w11.drew) := Lib.hid (Below.refl _ _).drew
  clear hn11 HRN HN9 HN8 HL8 HP8 HOW HBO HVS HKE HKL HSE HXE HUE
  have k11 := HL11.out.cs.2.2.2.2.2.2.2.2.2.2.2
  obtain ⟨rm, hrm, hrm1, hrm6⟩ : ∃ rm : Nat, 1 + (q.room : Int) % 6 = (rm : Int) ∧ 1 ≤ rm ∧ rm ≤ 6 := ⟨1 + q.room % 6, by omega, by omega, by omega⟩
  have HRM : Hid (rm = 1 + q.room % 6) := Lib.hid (by omega)
  go_wp2_with fail
  have rm1 : (1 : Int) ≤ rm := by omega
  have rm6 : (rm : Int) ≤ 6 := by omega
  clear hrm hrm1 hrm6
  have hvb : (v == 0) = false := by rw [beq_eq_false_iff_ne]; exact HHV.out
  go_quiet (fail)
  obtain ⟨wx, hwx⟩ : ∃ wx, w11.drewN nq = wx := ⟨_, rfl⟩
  rw [hwx]
  have HNX : Hid (Nb ⟨w8, own H d B X F⟩ wx H d2 (sQ q n nc) m B X F N (1 + q.room % 6) (qX q n nc) (nY 0 (sQ q n nc) v (1 + q.room % 6) (qX q n nc) (qY q n nc)) q.up [(w8.heap.size, .nilFunc)]) := Lib.hid (hwx ▸ HN11.out.later (HBQ.out nq))
  have HLX : Hid (Lc wx q V.heap.size p1 p2 p3 (objL (sQ q n nc)) (coL (sQ q n nc)) (qX q n nc)) := Lib.hid (hwx ▸ HL11.out.later (HBQ.out nq))
  have HPX : Hid (Below V.heap.size V wx) := Lib.hid (hwx ▸ HP11.out.trans ((HBQ.out nq).mono HP11.out.size))
  have HRF : Hid (Below wx.heap.size wx wx) := Lib.hid (Below.refl _ _)
  clear hwx k11 HN11 HL11 HP11 HBQ HBD
  have HIN := Lib.hid (in_any p1 c1 (objL (sQ q n nc)) v wx HLX.out.r1.rd0 (by have := HLE.out; omega))
  have hdm : decide (v ∈ objL (sQ q n nc)) = false := decide_eq_false HHI.out
  rw [hdm] at HIN
  clear hdm
  go_wp2_with (first | (go_at_call 21; refine HIN.out.mono ?_; rintro e w9 ⟨rfl, hw9⟩; cases hw9) | (go_at_call 16; fail))
  refine (nb_all HNX.out).mono ?_
  rintro e w13 ⟨p5, c5, rfl, hr5, hb13, _⟩
  have HB13 : Hid (Below wx.heap.size wx w13) := Lib.hid hb13
  have HR5 := Lib.hid hr5
  clear hb13 hr5
  go_wp2_with (go_at_call 24; fail)
  refine (Row.same_any p5 p3 c5 c3 (qX q n nc) w13 HR5.out (HLX.out.r3.later HB13.out) (by have := HXL.out; omega)).mono ?_
  rintro e w14 ⟨rfl, nz, hw14⟩
  have HB14 : Hid (Below wx.heap.size wx w14) := Lib.hid (hw14 ▸ below_drewN HB13.out nz)
  clear hw14
  go_wp2_with (go_at_call 25; fail)
  refine (nb_up (HNX.out.later HB14.out)).mono ?_
  rintro e w15 ⟨rfl, hb15⟩
  have HB15 : Hid (Below wx.heap.size wx w15) := Lib.hid (HB14.out.trans (hb15.mono HB14.out.size))
  clear hb15
  have hub : (q.up == q.up) = true := by simp
  go_wp2_with (go_at_call 26; fail)
  refine (painted_any (coV (sQ q n nc)) 0 (objL (sQ q n nc)) [] p1 p2 none c1 c2 0 w15 (HNX.out.later HB15.out).is (HLX.out.r1.later HB15.out) (HLX.out.r2.later HB15.out) (Rd.nil _) (by have := HLE.out; omega) (by simp) (fun a ha => ⟨coE_in ((obj_mem HNX.out.is).1 ha), by rw [if_neg (by simp)]⟩)).mono ?_
  rintro e w16 ⟨rfl, hb16⟩
  have HB16 : Hid (Below V.heap.size V w16) := Lib.hid (HPX.out.trans ((HB15.out.trans (hb16.mono HB15.out.size)).mono HPX.out.size))
  clear hb16
  go_wp2_with fail
  go_ret
  exact ⟨rfl, HB16.out⟩

set_option maxRecDepth 200000 in
set_option maxHeartbeats 8000000 in
theorem notes_K0 (q : Cs) (v : Int) (n nc S : Nat) (V : World) (hp : Pre q n nc S V) (hgb : gB q = false) (hv : v ≠ 0) (hi : v ∈ objL (sQ q n nc)) (hco : coV (sQ q n nc) v = 0) :
    Calls Tryz.prog 3 #[(.agg #[.int .i64 q.c.b, .int .i64 q.c.wd, .int .i64 q.c.m, .int .i64 q.c.r, .int .i64 q.c.ce, .int .i64 q.c.lg, .int .i64 q.c.st, .slice q.pt q.l.length q.ct, .slice q.pb q.bl.length q.cb, .slice q.px q.xl.length q.cx, .int .u8 q.room, .bool q.up]), .int .i64 v, .bool false] V fun e w' => e = .returned (.bool true) ∧ Below V.heap.size V w' := by
  have HPR := Lib.hid hp
  have HHV := Lib.hid hv
  have HHI := Lib.hid hi
  have HHCO := Lib.hid hco
  clear hv hi hco
  have HGR : Hid (∀ W, Calls Tryz.prog 11 #[(.agg #[.int .i64 q.c.b, .int .i64 q.c.wd, .int .i64 q.c.m, .int .i64 q.c.r, .int .i64 q.c.ce, .int .i64 q.c.lg, .int .i64 q.c.st, .slice q.pt q.l.length q.ct, .slice q.pb q.bl.length q.cb, .slice q.px q.xl.length q.cx, .int .u8 q.room, .bool q.up])] W fun e w' => e = .returned (.bool false) ∧ Below W.heap.size W w') := Lib.hid fun W => by
    have h := great_any q W
    rw [hgb] at h
    exact h
  obtain ⟨V1, hV1⟩ : ∃ V1, V.alloc (.cells #[.int .i64 q.c.b, .int .i64 q.c.wd, .int .i64 q.c.m, .int .i64 q.c.r, .int .i64 q.c.ce, .int .i64 q.c.lg, .int .i64 q.c.st, .slice q.pt q.l.length q.ct, .slice q.pb q.bl.length q.cb, .slice q.px q.xl.length q.cx, .int .u8 q.room, .bool q.up] 27) = V1 := ⟨_, rfl⟩
  have HC1 : Hid (CaseAt q V1 V.heap.size) := Lib.hid (hV1 ▸ CaseAt.new q V)
  have HB1 : Hid (Below V.heap.size V V1) := Lib.hid (by rw [← hV1]; exact (Below.refl _ _).alloc (Nat.le_refl _) _)
  have HBV : Hid (∀ U, Below V1.heap.size V1 U → Below V.heap.size V U) := Lib.hid fun U hU => HB1.out.trans (hU.mono HB1.out.size)
  clear hp hgb
  obtain ⟨k0, k1, k2, k3, k4, k5, k6, k7, k8, k9, k10, k11⟩ := HC1.out
  go_enter Tryz.func3, Tryz.ntmps3
  go_wp2_with fail
  refine (HGR.out _).mono ?_
  rintro e w2 ⟨rfl, hb2⟩
  have HP2 : Hid (Below V1.heap.size V1 w2) := Lib.hid hb2
  clear hb2 HGR k0 k1 k2 k3 k4 k5 k6 k7 k8 k9 k10 k11
  go_wp2_with (go_at_call 12; fail)
  refine (awake_any _ (HPR.out.ht.later (HBV.out _ HP2.out))).mono ?_
  rintro e w3 ⟨rfl, hb3⟩
  have HP3 : Hid (Below V1.heap.size V1 w3) := Lib.hid (HP2.out.trans (hb3.mono HP2.out.size))
  clear hb3 HP2
  obtain ⟨k0, k1, k2, k3, k4, k5, k6, k7, k8, k9, k10, k11⟩ := HC1.out.later HP3.out
  go_wp2_with (go_at_call 13; fail)
  refine ((HPR.out.later (HBV.out _ HP3.out)).parts).mono ?_
  rintro e w4 ⟨H, B, X, F, d, m, rfl, hp, hm, hsm⟩
  have HPB := Lib.hid hp
  have HLE : Hid ((objL (sQ q n nc)).length ≤ 1000) := Lib.hid (obj_le hsm)
  have HP4 : Hid (Below V1.heap.size V1 w4) := Lib.hid (HP3.out.trans (hp.bel.mono HP3.out.size))
  clear hp hm hsm k0 k1 k2 k3 k4 k5 k6 k7 k8 k9 k10 k11
  go_wp2_with (go_at_call 14; fail)
  refine (new_any HPB.out).mono ?_
  rintro e w5 ⟨rfl, hn5⟩
  generalize w4.heap.size = N at *
  have HP5 : Hid (Below V1.heap.size V1 w5) := Lib.hid (HP3.out.trans ((hn5.bel.below (fun _ e => e.elim) (Nat.le_refl _)).mono HP3.out.size))
  have HN5 := Lib.hid hn5
  have HGE : Hid (∀ k, own H d B X F k → V.heap.size < k) := Lib.hid fun k hk => by
    have h1 := HPB.out.ge k hk
    have h2 := HP3.out.size
    have h3 := HC1.out.lt
    omega
  clear hn5 HPB
  go_wp2_with (go_at_call 15; fail)
  refine (colors_any w5 HN5.out.is (HPR.out.ht.later (HBV.out _ HP5.out)) (by have := HLE.out; omega)).mono ?_
  rintro e w6 ⟨p1, c1, p2, c2, rfl, hr1, hr2, hb6, hg6⟩
  have HR1 := Lib.hid hr1
  have HR2 := Lib.hid hr2
  have HG6 : Hid (∀ g, rowB p1 g ∨ rowB p2 g → ¬ own H d B X F g) := Lib.hid fun g hg hk => by
    have h1 := hg6 g hg
    have h2 := HN5.out.lt hk
    omega
  have HN6 := Lib.hid (HN5.out.later hb6)
  have HP6 : Hid (Below V1.heap.size V1 w6) := Lib.hid (HP5.out.trans (hb6.mono HP5.out.size))
  clear hr1 hr2 hb6 hg6 HN5
  have HCL : Hid ((coL (sQ q n nc)).length = (objL (sQ q n nc)).length) := Lib.hid (by simp [coL])
  have HALL := Lib.hid (fun U (hU : Below w6.heap.size w6 U) => nb_all (HN6.out.later hU))
  have HLEN := Lib.hid (fun U (hU : Below w6.heap.size w6 U) => nb_blen (HN6.out.later hU))
  have HK : Hid (∀ U, Below w6.heap.size w6 U → U.cell? ⟨V.heap.size, 10, none⟩ = some (.int .u8 q.room)) := Lib.hid fun U hU => (HC1.out.later (HP6.out.trans (hU.mono HP6.out.size))).2.2.2.2.2.2.2.2.2.2.1
  have HD0 : Hid (Below w6.heap.size w6 w6) := Lib.hid (Below.refl _ _)
  have HD1 : Hid (Below w6.heap.size w6 w6.drew) := Lib.hid (Below.refl _ _).drew
  have hrz : q.room < 256 := HPR.out.hq.r
  have hz6 : (q.room : Int) % 6 = ((q.room % 6 : Nat) : Int) := by omega
  go_wp2_with fail
  go_region_held3 (fun U => U.cell? ⟨V.heap.size, 10, none⟩ = some (.int .u8 q.room))
    (first | exact HK.out _ HD0.out | exact HK.out _ HD1.out | exact HK.out _ HX7.out | exact HK.out _ HX8.out)
    (first
      | (go_at_call 16; refine (HALL.out _ (by first | exact HD0.out | exact HD1.out)).mono ?_; rintro e w7 ⟨p3, c3, rfl, hr3, hb7, hg3⟩; have HR3 := Lib.hid hr3; have HX7 : Hid (Below w6.heap.size w6 w7) := Lib.hid (by first | exact HD1.out.trans hb7 | exact HD0.out.trans hb7); have HG3 : Hid (∀ g, rowB p3 g → w6.heap.size ≤ g) := Lib.hid hg3; clear hr3 hb7 hg3)
      | (go_at_call 17; refine (HLEN.out _ HX7.out).mono ?_; rintro e w8 ⟨rfl, hb8⟩; have HX8 : Hid (Below w6.heap.size w6 w8) := Lib.hid (HX7.out.trans (hb8.mono HX7.out.size)); have HY8 : Hid (Below w7.heap.size w7 w8) := Lib.hid hb8; clear hb8))
  rename_i hdrop
  clear hdrop
  rw [sum6 q.room hrz]
  have HN8 := Lib.hid ((HN6.out.later HX8.out).rebase (HPR.out.ht.later (HBV.out _ (HP6.out.trans (HX8.out.mono HP6.out.size)))))
  have HP8 : Hid (Below V.heap.size V w8) := Lib.hid (HBV.out _ (HP6.out.trans (HX8.out.mono HP6.out.size)))
  have HL8 : Hid (Lc w8 q V.heap.size p1 p2 p3 (objL (sQ q n nc)) (coL (sQ q n nc)) (qX q n nc)) := Lib.hid ⟨HR1.out.later HX8.out, HR2.out.later HX8.out, HR3.out.later HY8.out, HC1.out.later (HP6.out.trans (HX8.out.mono HP6.out.size))⟩
  have HOW : Hid (∀ g, (rowB p1 g ∨ rowB p2 g ∨ rowB p3 g) → ¬ own H d B X F g) := Lib.hid fun g hg hk => by
    rcases hg with hg | hg | hg
    · exact HG6.out g (.inl hg) hk
    · exact HG6.out g (.inr hg) hk
    · have h1 := HG3.out g hg
      have h2 := HN6.out.lt hk
      omega
  have HBO : Hid (¬ own H d B X F V.heap.size) := Lib.hid fun e => by have := HGE.out _ e; omega
  have HVS : Hid (∀ k, own H d B X F k → V.heap.size ≤ k) := Lib.hid fun k e => by have := HGE.out _ e; omega
  clear HK HALL HLEN HR1 HR2 HR3 HG3 HG6 HN6 HX7 HX8 HY8 HD0 HD1 HP6 HP5 HP4 HC1 HB1 HBV hrz hz6 HGE
  have hqx : addsL (1 + q.room % 6) (objL (sQ q n nc)) q.bl = qX q n nc := rfl
  have hqy : addsL 256 (objL (sQ q n nc)) q.xl = qY q n nc := rfl
  rw [hqx, hqy] at *
  clear hqx hqy
  have hv := HHV.out
  have hi := HHI.out
  have hco := HHCO.out
  have his := HN8.out.is
  have hxl : (qX q n nc).length ≤ 6 := by
    have := addsL_len (r := 1 + q.room % 6) (al := objL (sQ q n nc)) (zs := q.bl)
    unfold qX
    omega
  have hsk : nSkip 0 (sQ q n nc) v := .inr (.inr hco)
  have HKE : Hid (nK 0 (sQ q n nc) v (1 + q.room % 6) (qX q n nc) (qY q n nc) = 1) := Lib.hid (by unfold nK; rw [if_neg hv, if_pos hsk])
  have HSE : Hid (nS 0 (sQ q n nc) v (1 + q.room % 6) (qX q n nc) (qY q n nc) = (sQ q n nc)) := Lib.hid (by unfold nS; rw [if_pos hsk])
  have HXE : Hid (nX 0 (sQ q n nc) v (1 + q.room % 6) (qX q n nc) = (qX q n nc)) := Lib.hid (by unfold nX; rw [if_pos hsk])
  have HUE : Hid (nU 0 (sQ q n nc) v (1 + q.room % 6) (qX q n nc) (qY q n nc) q.up = q.up) := Lib.hid (by unfold nU; rw [if_pos hsk])
  have HKL : Hid (1 + 1 ≤ 1000) := Lib.hid (by decide)
  have HXR : Hid ((qX q n nc).length ≤ 1 + q.room % 6) := Lib.hid addsL_len
  have HXL := Lib.hid hxl
  clear his hxl hsk
  clear hv hi hco
  go_wp2_with (go_at_call 20; fail)
  refine (once_any _).mono ?_
  rintro e w9 ⟨rfl, hw9⟩
  have HN9 : Hid (Nb ⟨w8, own H d B X F⟩ w9 H d (sQ q n nc) m B X F N (1 + q.room % 6) (qX q n nc) (qY q n nc) q.up [(w8.heap.size, .nilFunc)]) := Lib.hid (by
    rw [hw9]
    exact (HN8.out.later ((Below.refl _ _).alloc (Nat.le_refl _) _)).box (World.cell?_alloc_new ..) (HN8.out.not_new (Nat.le_refl _)))
  clear hw9
  have HNO := Lib.hid (note_any v 0 1 ⟨fun _ => True, fun U => ∃ d', Nb ⟨w8, own H d B X F⟩ U H d' (nS 0 (sQ q n nc) v (1 + q.room % 6) (qX q n nc) (qY q n nc)) m B X F N (1 + q.room % 6) (nX 0 (sQ q n nc) v (1 + q.room % 6) (qX q n nc)) (nY 0 (sQ q n nc) v (1 + q.room % 6) (qX q n nc) (qY q n nc)) (nU 0 (sQ q n nc) v (1 + q.room % 6) (qX q n nc) (qY q n nc) q.up) [(w8.heap.size, .nilFunc)]⟩ (fun _ _ _ _ _ _ _ => trivial) (.func (.func 76) #[] #[.pointer (some ⟨w8.heap.size, 0, none⟩)]) (.inr ⟨_, _, rfl⟩) (qX q n nc) (qY q n nc) d (sQ q n nc) q.up [(w8.heap.size, .nilFunc)] w9 HN9.out (fun U d' h => does_once _ w8.heap.size U (h.at (by simp)) trivial ⟨d', h⟩))
  rw [HKE.out] at HNO
  go_wp2_with (go_at_call 19; fail)
  refine HNO.out.mono ?_
  rintro e w10 ⟨u, rfl, hd⟩
  have HRN := Lib.hid (run_any _ _ 1000 u w10 hd HKL.out (by decide))
  clear hd HNO
  go_wp2_with (go_at_call 18; fail)
  refine HRN.out.mono ?_
  rintro e w11 ⟨rfl, d2, hn11⟩
  rw [HSE.out, HXE.out, HUE.out] at hn11
  have HN11 := Lib.hid hn11
  have HL11 : Hid (Lc w11 q V.heap.size p1 p2 p3 (objL (sQ q n nc)) (coL (sQ q n nc)) (qX q n nc)) := Lib.hid (HL8.out.chg hn11.bel HBO.out HOW.out)
  have HP11 : Hid (Below V.heap.size V w11) := Lib.hid (HP8.out.trans (hn11.bel.below HVS.out HP8.out.size))
  have HBQ : Hid (∀ n, Below w11.heap.size w11 (w11.drewN n)) := Lib.hid fun n => below_drewN (Below.refl _ _) n
  have HBD : Hid (Below w11.heap.size w11 w11.drew) := Lib.hid (Below.refl _ _).drew
  clear hn11 HRN HN9 HN8 HL8 HP8 HOW HBO HVS HKE HKL HSE HXE HUE
  have k11 := HL11.out.cs.2.2.2.2.2.2.2.2.2.2.2
  obtain ⟨rm, hrm, hrm1, hrm6⟩ : ∃ rm : Nat, 1 + (q.room : Int) % 6 = (rm : Int) ∧ 1 ≤ rm ∧ rm ≤ 6 := ⟨1 + q.room % 6, by omega, by omega, by omega⟩
  have HRM : Hid (rm = 1 + q.room % 6) := Lib.hid (by omega)
  go_wp2_with fail
  have rm1 : (1 : Int) ≤ rm := by omega
  have rm6 : (rm : Int) ≤ 6 := by omega
  clear hrm hrm1 hrm6
  have hvb : (v == 0) = false := by rw [beq_eq_false_iff_ne]; exact HHV.out
  go_quiet (fail)
  obtain ⟨wx, hwx⟩ : ∃ wx, w11.drewN nq = wx := ⟨_, rfl⟩
  rw [hwx]
  have HNX : Hid (Nb ⟨w8, own H d B X F⟩ wx H d2 (sQ q n nc) m B X F N (1 + q.room % 6) (qX q n nc) (nY 0 (sQ q n nc) v (1 + q.room % 6) (qX q n nc) (qY q n nc)) q.up [(w8.heap.size, .nilFunc)]) := Lib.hid (hwx ▸ HN11.out.later (HBQ.out nq))
  have HLX : Hid (Lc wx q V.heap.size p1 p2 p3 (objL (sQ q n nc)) (coL (sQ q n nc)) (qX q n nc)) := Lib.hid (hwx ▸ HL11.out.later (HBQ.out nq))
  have HPX : Hid (Below V.heap.size V wx) := Lib.hid (hwx ▸ HP11.out.trans ((HBQ.out nq).mono HP11.out.size))
  have HRF : Hid (Below wx.heap.size wx wx) := Lib.hid (Below.refl _ _)
  clear hwx k11 HN11 HL11 HP11 HBQ HBD
  have HIN := Lib.hid (in_any p1 c1 (objL (sQ q n nc)) v wx HLX.out.r1.rd0 (by have := HLE.out; omega))
  have hdm : decide (v ∈ objL (sQ q n nc)) = true := decide_eq_true HHI.out
  rw [hdm] at HIN
  clear hdm
  have HPL := Lib.hid (place_any p1 c1 (objL (sQ q n nc)) v wx HLX.out.r1 (by have := HLE.out; omega))
  obtain ⟨hpl, hgw⟩ := was_at (cf := coV (sQ q n nc)) HHI.out
  obtain ⟨g2, off2, rfl, c2w⟩ := HLX.out.r2.at (j := plN (objL (sQ q n nc)) v) (by rw [HCL.out]; exact hpl)
  have hgw2 : (coL (sQ q n nc)).getD (plN (objL (sQ q n nc)) v) 0 = coV (sQ q n nc) v := hgw
  rw [hgw2] at c2w
  have q0 : (0 : Int) ≤ (plN (objL (sQ q n nc)) v : Int) := by omega
  have q1 : (plN (objL (sQ q n nc)) v : Int) < ((objL (sQ q n nc)).length : Int) := by omega
  have q2 : (plN (objL (sQ q n nc)) v : Int) ≤ 1000 := by have := HLE.out; omega
  have hcb : (coV (sQ q n nc) v == 0) = true := by rw [HHCO.out]; rfl
  have HCB := Lib.hid hcb
  clear hgw hgw2 hpl hcb
  generalize plN (objL (sQ q n nc)) v = pl at *
  generalize hcv : coV (sQ q n nc) v = cv at *
  have hcb := HCB.out
  clear hcv
  go_wp2_with (first | (go_at_call 21; refine HIN.out.mono ?_; rintro e w9 ⟨rfl, hw9⟩; cases hw9) | (go_at_call 22; refine HPL.out.mono ?_; rintro e w9 ⟨rfl, hw9⟩; cases hw9) | (go_at_call 16; fail))
  refine (nb_all HNX.out).mono ?_
  rintro e w13 ⟨p5, c5, rfl, hr5, hb13, _⟩
  have HB13 : Hid (Below wx.heap.size wx w13) := Lib.hid hb13
  have HR5 := Lib.hid hr5
  clear hb13 hr5
  go_wp2_with (go_at_call 24; fail)
  refine (Row.same_any p5 p3 c5 c3 (qX q n nc) w13 HR5.out (HLX.out.r3.later HB13.out) (by have := HXL.out; omega)).mono ?_
  rintro e w14 ⟨rfl, nz, hw14⟩
  have HB14 : Hid (Below wx.heap.size wx w14) := Lib.hid (hw14 ▸ below_drewN HB13.out nz)
  clear hw14
  go_wp2_with (go_at_call 25; fail)
  refine (nb_up (HNX.out.later HB14.out)).mono ?_
  rintro e w15 ⟨rfl, hb15⟩
  have HB15 : Hid (Below wx.heap.size wx w15) := Lib.hid (HB14.out.trans (hb15.mono HB14.out.size))
  clear hb15
  have hub : (q.up == q.up) = true := by simp
  go_wp2_with (go_at_call 26; fail)
  refine (painted_any (coV (sQ q n nc)) 0 (objL (sQ q n nc)) [] p1 _ none c1 c2 0 w15 (HNX.out.later HB15.out).is (HLX.out.r1.later HB15.out) (HLX.out.r2.later HB15.out) (Rd.nil _) (by have := HLE.out; omega) (by simp) (fun a ha => ⟨coE_in ((obj_mem HNX.out.is).1 ha), by rw [if_neg (by simp)]⟩)).mono ?_
  rintro e w16 ⟨rfl, hb16⟩
  have HB16 : Hid (Below V.heap.size V w16) := Lib.hid (HPX.out.trans ((HB15.out.trans (hb16.mono HB15.out.size)).mono HPX.out.size))
  clear hb16
  go_wp2_with fail
  go_ret
  exact ⟨rfl, HB16.out⟩

set_option maxRecDepth 200000 in
set_option maxHeartbeats 8000000 in
theorem notes_R0 (q : Cs) (v : Int) (n nc S : Nat) (V : World) (hp : Pre q n nc S V) (hgb : gB q = false) (hv : v ≠ 0) (hi : v ∈ objL (sQ q n nc)) (hco : coV (sQ q n nc) v ≠ 0) (hlt : (qX q n nc).length < 1 + q.room % 6) :
    Calls Tryz.prog 3 #[(.agg #[.int .i64 q.c.b, .int .i64 q.c.wd, .int .i64 q.c.m, .int .i64 q.c.r, .int .i64 q.c.ce, .int .i64 q.c.lg, .int .i64 q.c.st, .slice q.pt q.l.length q.ct, .slice q.pb q.bl.length q.cb, .slice q.px q.xl.length q.cx, .int .u8 q.room, .bool q.up]), .int .i64 v, .bool false] V fun e w' => e = .returned (.bool true) ∧ Below V.heap.size V w' := by
  have HPR := Lib.hid hp
  have HHV := Lib.hid hv
  have HHI := Lib.hid hi
  have HHCO := Lib.hid hco
  have HHLT := Lib.hid hlt
  clear hv hi hco hlt
  have HGR : Hid (∀ W, Calls Tryz.prog 11 #[(.agg #[.int .i64 q.c.b, .int .i64 q.c.wd, .int .i64 q.c.m, .int .i64 q.c.r, .int .i64 q.c.ce, .int .i64 q.c.lg, .int .i64 q.c.st, .slice q.pt q.l.length q.ct, .slice q.pb q.bl.length q.cb, .slice q.px q.xl.length q.cx, .int .u8 q.room, .bool q.up])] W fun e w' => e = .returned (.bool false) ∧ Below W.heap.size W w') := Lib.hid fun W => by
    have h := great_any q W
    rw [hgb] at h
    exact h
  obtain ⟨V1, hV1⟩ : ∃ V1, V.alloc (.cells #[.int .i64 q.c.b, .int .i64 q.c.wd, .int .i64 q.c.m, .int .i64 q.c.r, .int .i64 q.c.ce, .int .i64 q.c.lg, .int .i64 q.c.st, .slice q.pt q.l.length q.ct, .slice q.pb q.bl.length q.cb, .slice q.px q.xl.length q.cx, .int .u8 q.room, .bool q.up] 27) = V1 := ⟨_, rfl⟩
  have HC1 : Hid (CaseAt q V1 V.heap.size) := Lib.hid (hV1 ▸ CaseAt.new q V)
  have HB1 : Hid (Below V.heap.size V V1) := Lib.hid (by rw [← hV1]; exact (Below.refl _ _).alloc (Nat.le_refl _) _)
  have HBV : Hid (∀ U, Below V1.heap.size V1 U → Below V.heap.size V U) := Lib.hid fun U hU => HB1.out.trans (hU.mono HB1.out.size)
  clear hp hgb
  obtain ⟨k0, k1, k2, k3, k4, k5, k6, k7, k8, k9, k10, k11⟩ := HC1.out
  go_enter Tryz.func3, Tryz.ntmps3
  go_wp2_with fail
  refine (HGR.out _).mono ?_
  rintro e w2 ⟨rfl, hb2⟩
  have HP2 : Hid (Below V1.heap.size V1 w2) := Lib.hid hb2
  clear hb2 HGR k0 k1 k2 k3 k4 k5 k6 k7 k8 k9 k10 k11
  go_wp2_with (go_at_call 12; fail)
  refine (awake_any _ (HPR.out.ht.later (HBV.out _ HP2.out))).mono ?_
  rintro e w3 ⟨rfl, hb3⟩
  have HP3 : Hid (Below V1.heap.size V1 w3) := Lib.hid (HP2.out.trans (hb3.mono HP2.out.size))
  clear hb3 HP2
  obtain ⟨k0, k1, k2, k3, k4, k5, k6, k7, k8, k9, k10, k11⟩ := HC1.out.later HP3.out
  go_wp2_with (go_at_call 13; fail)
  refine ((HPR.out.later (HBV.out _ HP3.out)).parts).mono ?_
  rintro e w4 ⟨H, B, X, F, d, m, rfl, hp, hm, hsm⟩
  have HPB := Lib.hid hp
  have HLE : Hid ((objL (sQ q n nc)).length ≤ 1000) := Lib.hid (obj_le hsm)
  have HP4 : Hid (Below V1.heap.size V1 w4) := Lib.hid (HP3.out.trans (hp.bel.mono HP3.out.size))
  clear hp hm hsm k0 k1 k2 k3 k4 k5 k6 k7 k8 k9 k10 k11
  go_wp2_with (go_at_call 14; fail)
  refine (new_any HPB.out).mono ?_
  rintro e w5 ⟨rfl, hn5⟩
  generalize w4.heap.size = N at *
  have HP5 : Hid (Below V1.heap.size V1 w5) := Lib.hid (HP3.out.trans ((hn5.bel.below (fun _ e => e.elim) (Nat.le_refl _)).mono HP3.out.size))
  have HN5 := Lib.hid hn5
  have HGE : Hid (∀ k, own H d B X F k → V.heap.size < k) := Lib.hid fun k hk => by
    have h1 := HPB.out.ge k hk
    have h2 := HP3.out.size
    have h3 := HC1.out.lt
    omega
  clear hn5 HPB
  go_wp2_with (go_at_call 15; fail)
  refine (colors_any w5 HN5.out.is (HPR.out.ht.later (HBV.out _ HP5.out)) (by have := HLE.out; omega)).mono ?_
  rintro e w6 ⟨p1, c1, p2, c2, rfl, hr1, hr2, hb6, hg6⟩
  have HR1 := Lib.hid hr1
  have HR2 := Lib.hid hr2
  have HG6 : Hid (∀ g, rowB p1 g ∨ rowB p2 g → ¬ own H d B X F g) := Lib.hid fun g hg hk => by
    have h1 := hg6 g hg
    have h2 := HN5.out.lt hk
    omega
  have HN6 := Lib.hid (HN5.out.later hb6)
  have HP6 : Hid (Below V1.heap.size V1 w6) := Lib.hid (HP5.out.trans (hb6.mono HP5.out.size))
  clear hr1 hr2 hb6 hg6 HN5
  have HCL : Hid ((coL (sQ q n nc)).length = (objL (sQ q n nc)).length) := Lib.hid (by simp [coL])
  have HALL := Lib.hid (fun U (hU : Below w6.heap.size w6 U) => nb_all (HN6.out.later hU))
  have HLEN := Lib.hid (fun U (hU : Below w6.heap.size w6 U) => nb_blen (HN6.out.later hU))
  have HK : Hid (∀ U, Below w6.heap.size w6 U → U.cell? ⟨V.heap.size, 10, none⟩ = some (.int .u8 q.room)) := Lib.hid fun U hU => (HC1.out.later (HP6.out.trans (hU.mono HP6.out.size))).2.2.2.2.2.2.2.2.2.2.1
  have HD0 : Hid (Below w6.heap.size w6 w6) := Lib.hid (Below.refl _ _)
  have HD1 : Hid (Below w6.heap.size w6 w6.drew) := Lib.hid (Below.refl _ _).drew
  have hrz : q.room < 256 := HPR.out.hq.r
  have hz6 : (q.room : Int) % 6 = ((q.room % 6 : Nat) : Int) := by omega
  go_wp2_with fail
  go_region_held3 (fun U => U.cell? ⟨V.heap.size, 10, none⟩ = some (.int .u8 q.room))
    (first | exact HK.out _ HD0.out | exact HK.out _ HD1.out | exact HK.out _ HX7.out | exact HK.out _ HX8.out)
    (first
      | (go_at_call 16; refine (HALL.out _ (by first | exact HD0.out | exact HD1.out)).mono ?_; rintro e w7 ⟨p3, c3, rfl, hr3, hb7, hg3⟩; have HR3 := Lib.hid hr3; have HX7 : Hid (Below w6.heap.size w6 w7) := Lib.hid (by first | exact HD1.out.trans hb7 | exact HD0.out.trans hb7); have HG3 : Hid (∀ g, rowB p3 g → w6.heap.size ≤ g) := Lib.hid hg3; clear hr3 hb7 hg3)
      | (go_at_call 17; refine (HLEN.out _ HX7.out).mono ?_; rintro e w8 ⟨rfl, hb8⟩; have HX8 : Hid (Below w6.heap.size w6 w8) := Lib.hid (HX7.out.trans (hb8.mono HX7.out.size)); have HY8 : Hid (Below w7.heap.size w7 w8) := Lib.hid hb8; clear hb8))
  rename_i hdrop
  clear hdrop
  rw [sum6 q.room hrz]
  have HN8 := Lib.hid ((HN6.out.later HX8.out).rebase (HPR.out.ht.later (HBV.out _ (HP6.out.trans (HX8.out.mono HP6.out.size)))))
  have HP8 : Hid (Below V.heap.size V w8) := Lib.hid (HBV.out _ (HP6.out.trans (HX8.out.mono HP6.out.size)))
  have HL8 : Hid (Lc w8 q V.heap.size p1 p2 p3 (objL (sQ q n nc)) (coL (sQ q n nc)) (qX q n nc)) := Lib.hid ⟨HR1.out.later HX8.out, HR2.out.later HX8.out, HR3.out.later HY8.out, HC1.out.later (HP6.out.trans (HX8.out.mono HP6.out.size))⟩
  have HOW : Hid (∀ g, (rowB p1 g ∨ rowB p2 g ∨ rowB p3 g) → ¬ own H d B X F g) := Lib.hid fun g hg hk => by
    rcases hg with hg | hg | hg
    · exact HG6.out g (.inl hg) hk
    · exact HG6.out g (.inr hg) hk
    · have h1 := HG3.out g hg
      have h2 := HN6.out.lt hk
      omega
  have HBO : Hid (¬ own H d B X F V.heap.size) := Lib.hid fun e => by have := HGE.out _ e; omega
  have HVS : Hid (∀ k, own H d B X F k → V.heap.size ≤ k) := Lib.hid fun k e => by have := HGE.out _ e; omega
  clear HK HALL HLEN HR1 HR2 HR3 HG3 HG6 HN6 HX7 HX8 HY8 HD0 HD1 HP6 HP5 HP4 HC1 HB1 HBV hrz hz6 HGE
  have hqx : addsL (1 + q.room % 6) (objL (sQ q n nc)) q.bl = qX q n nc := rfl
  have hqy : addsL 256 (objL (sQ q n nc)) q.xl = qY q n nc := rfl
  rw [hqx, hqy] at *
  clear hqx hqy
  have hv := HHV.out
  have hi := HHI.out
  have hco := HHCO.out
  have hlt := HHLT.out
  have his := HN8.out.is
  have hxl : (qX q n nc).length ≤ 6 := by
    have := addsL_len (r := 1 + q.room % 6) (al := objL (sQ q n nc)) (zs := q.bl)
    unfold qX
    omega
  have hsk : ¬ nSkip 0 (sQ q n nc) v := fun e => e.elim hv (fun e => e.elim (fun e => e (coE_in ((obj_mem his).1 hi))) hco)
  have HKE : Hid (nK 0 (sQ q n nc) v (1 + q.room % 6) (qX q n nc) (qY q n nc) = 1) := Lib.hid (by unfold nK; rw [if_neg hv, if_neg hsk, if_pos hlt])
  have HSE : Hid (nS 0 (sQ q n nc) v (1 + q.room % 6) (qX q n nc) (qY q n nc) = (sQ q n nc)) := Lib.hid (by unfold nS; rw [if_neg hsk, if_pos hlt])
  have HXE : Hid (nX 0 (sQ q n nc) v (1 + q.room % 6) (qX q n nc) = (qX q n nc ++ [v])) := Lib.hid (by unfold nX; rw [if_neg hsk, if_pos hlt])
  have HUE : Hid (nU 0 (sQ q n nc) v (1 + q.room % 6) (qX q n nc) (qY q n nc) q.up = q.up) := Lib.hid (by unfold nU; rw [if_neg hsk, if_pos hlt])
  have HKL : Hid (1 + 1 ≤ 1000) := Lib.hid (by decide)
  have HXR : Hid ((qX q n nc).length ≤ 1 + q.room % 6) := Lib.hid addsL_len
  have HXL := Lib.hid hxl
  clear his hxl hsk
  clear hv hi hco hlt
  go_wp2_with (go_at_call 20; fail)
  refine (once_any _).mono ?_
  rintro e w9 ⟨rfl, hw9⟩
  have HN9 : Hid (Nb ⟨w8, own H d B X F⟩ w9 H d (sQ q n nc) m B X F N (1 + q.room % 6) (qX q n nc) (qY q n nc) q.up [(w8.heap.size, .nilFunc)]) := Lib.hid (by
    rw [hw9]
    exact (HN8.out.later ((Below.refl _ _).alloc (Nat.le_refl _) _)).box (World.cell?_alloc_new ..) (HN8.out.not_new (Nat.le_refl _)))
  clear hw9
  have HNO := Lib.hid (note_any v 0 1 ⟨fun _ => True, fun U => ∃ d', Nb ⟨w8, own H d B X F⟩ U H d' (nS 0 (sQ q n nc) v (1 + q.room % 6) (qX q n nc) (qY q n nc)) m B X F N (1 + q.room % 6) (nX 0 (sQ q n nc) v (1 + q.room % 6) (qX q n nc)) (nY 0 (sQ q n nc) v (1 + q.room % 6) (qX q n nc) (qY q n nc)) (nU 0 (sQ q n nc) v (1 + q.room % 6) (qX q n nc) (qY q n nc) q.up) [(w8.heap.size, .nilFunc)]⟩ (fun _ _ _ _ _ _ _ => trivial) (.func (.func 76) #[] #[.pointer (some ⟨w8.heap.size, 0, none⟩)]) (.inr ⟨_, _, rfl⟩) (qX q n nc) (qY q n nc) d (sQ q n nc) q.up [(w8.heap.size, .nilFunc)] w9 HN9.out (fun U d' h => does_once _ w8.heap.size U (h.at (by simp)) trivial ⟨d', h⟩))
  rw [HKE.out] at HNO
  go_wp2_with (go_at_call 19; fail)
  refine HNO.out.mono ?_
  rintro e w10 ⟨u, rfl, hd⟩
  have HRN := Lib.hid (run_any _ _ 1000 u w10 hd HKL.out (by decide))
  clear hd HNO
  go_wp2_with (go_at_call 18; fail)
  refine HRN.out.mono ?_
  rintro e w11 ⟨rfl, d2, hn11⟩
  rw [HSE.out, HXE.out, HUE.out] at hn11
  have HN11 := Lib.hid hn11
  have HL11 : Hid (Lc w11 q V.heap.size p1 p2 p3 (objL (sQ q n nc)) (coL (sQ q n nc)) (qX q n nc)) := Lib.hid (HL8.out.chg hn11.bel HBO.out HOW.out)
  have HP11 : Hid (Below V.heap.size V w11) := Lib.hid (HP8.out.trans (hn11.bel.below HVS.out HP8.out.size))
  have HBQ : Hid (∀ n, Below w11.heap.size w11 (w11.drewN n)) := Lib.hid fun n => below_drewN (Below.refl _ _) n
  have HBD : Hid (Below w11.heap.size w11 w11.drew) := Lib.hid (Below.refl _ _).drew
  clear hn11 HRN HN9 HN8 HL8 HP8 HOW HBO HVS HKE HKL HSE HXE HUE
  have k11 := HL11.out.cs.2.2.2.2.2.2.2.2.2.2.2
  obtain ⟨rm, hrm, hrm1, hrm6⟩ : ∃ rm : Nat, 1 + (q.room : Int) % 6 = (rm : Int) ∧ 1 ≤ rm ∧ rm ≤ 6 := ⟨1 + q.room % 6, by omega, by omega, by omega⟩
  have HRM : Hid (rm = 1 + q.room % 6) := Lib.hid (by omega)
  go_wp2_with fail
  have rm1 : (1 : Int) ≤ rm := by omega
  have rm6 : (rm : Int) ≤ 6 := by omega
  clear hrm hrm1 hrm6
  have hvb : (v == 0) = false := by rw [beq_eq_false_iff_ne]; exact HHV.out
  go_quiet (fail)
  obtain ⟨wx, hwx⟩ : ∃ wx, w11.drewN nq = wx := ⟨_, rfl⟩
  rw [hwx]
  have HNX : Hid (Nb ⟨w8, own H d B X F⟩ wx H d2 (sQ q n nc) m B X F N (1 + q.room % 6) (qX q n nc ++ [v]) (nY 0 (sQ q n nc) v (1 + q.room % 6) (qX q n nc) (qY q n nc)) q.up [(w8.heap.size, .nilFunc)]) := Lib.hid (hwx ▸ HN11.out.later (HBQ.out nq))
  have HLX : Hid (Lc wx q V.heap.size p1 p2 p3 (objL (sQ q n nc)) (coL (sQ q n nc)) (qX q n nc)) := Lib.hid (hwx ▸ HL11.out.later (HBQ.out nq))
  have HPX : Hid (Below V.heap.size V wx) := Lib.hid (hwx ▸ HP11.out.trans ((HBQ.out nq).mono HP11.out.size))
  have HRF : Hid (Below wx.heap.size wx wx) := Lib.hid (Below.refl _ _)
  clear hwx k11 HN11 HL11 HP11 HBQ HBD
  have HIN := Lib.hid (in_any p1 c1 (objL (sQ q n nc)) v wx HLX.out.r1.rd0 (by have := HLE.out; omega))
  have hdm : decide (v ∈ objL (sQ q n nc)) = true := decide_eq_true HHI.out
  rw [hdm] at HIN
  clear hdm
  have HPL := Lib.hid (place_any p1 c1 (objL (sQ q n nc)) v wx HLX.out.r1 (by have := HLE.out; omega))
  obtain ⟨hpl, hgw⟩ := was_at (cf := coV (sQ q n nc)) HHI.out
  obtain ⟨g2, off2, rfl, c2w⟩ := HLX.out.r2.at (j := plN (objL (sQ q n nc)) v) (by rw [HCL.out]; exact hpl)
  have hgw2 : (coL (sQ q n nc)).getD (plN (objL (sQ q n nc)) v) 0 = coV (sQ q n nc) v := hgw
  rw [hgw2] at c2w
  have q0 : (0 : Int) ≤ (plN (objL (sQ q n nc)) v : Int) := by omega
  have q1 : (plN (objL (sQ q n nc)) v : Int) < ((objL (sQ q n nc)).length : Int) := by omega
  have q2 : (plN (objL (sQ q n nc)) v : Int) ≤ 1000 := by have := HLE.out; omega
  have hcb : (coV (sQ q n nc) v == 0) = false := by rw [beq_eq_false_iff_ne]; exact HHCO.out
  have HCB := Lib.hid hcb
  clear hgw hgw2 hpl hcb
  generalize plN (objL (sQ q n nc)) v = pl at *
  generalize hcv : coV (sQ q n nc) v = cv at *
  have hcb := HCB.out
  clear hcv
  have hlt : ((qX q n nc).length : Int) < (rm : Int) := by have := HHLT.out; have := HRM.out; omega
  have hlt2 : (qX q n nc).length < rm := by have := HHLT.out; have := HRM.out; omega
  have hxl6 : (qX q n nc).length ≤ 6 := HXL.out
  have HO0 : Hid ((wx.alloc (.cells #[] 3)).ownsRow wx.heap.size 3 1 (.slice (some ⟨wx.heap.size, 0, none⟩) ([] : List Int).length 0) ([] : List Int).length (cellsZ [])) := Lib.hid (nil_owns wx)
  have HLY : Hid (Lc (wx.alloc (.cells #[] 3)) q V.heap.size p1 (some ⟨g2, off2, none⟩) p3 (objL (sQ q n nc)) (coL (sQ q n nc)) (qX q n nc)) := Lib.hid (HLX.out.later ((Below.refl _ _).alloc (Nat.le_refl _) _))
  go_wp2_with (first
    | (go_at_call 21; refine HIN.out.mono ?_; rintro e w9 ⟨rfl, hw9⟩; cases hw9)
    | (go_at_call 22; refine HPL.out.mono ?_; rintro e w9 ⟨rfl, hw9⟩; cases hw9)
    | (at_builtin; (refine Sw.wpList_append_row2 rfl (.tmp 125) (.tmp 126) rfl wx.heap.size (some ⟨wx.heap.size, 0, none⟩) 0 [] rfl HO0.out p3 c3 (qX q n nc) rfl HLY.out.r3.rd0 (by have := HXL.out; simp; omega) (by simp) ?_; intro pa ca wa ha hca hga; have HHA := Lib.hid ha; have HCA := Lib.hid hca; have HGA := Lib.hid hga; clear ha hca hga))
    | (at_builtin; (refine Sw.wpList_append_row2 rfl (.tmp 127) (.tmp 129) rfl wx.heap.size pa ca ([] ++ qX q n nc) rfl (HHA.out.alloc _) (some ⟨wa.heap.size, 0, none⟩) 1 [v] rfl (one_rd0 wa v) (by have := HXL.out; simp; omega) (by have h1 := HCA.out.size; rw [World.size_alloc] at h1 ⊢; omega) ?_; intro pb cb wb hb hcb hgb; have HHB := Lib.hid hb; have HCB2 := Lib.hid hcb; have HGB := Lib.hid hgb; clear hb hcb hgb)))
  have HBB : Hid (Below wx.heap.size wx wb) := Lib.hid (by
    have b1 : Below wx.heap.size wx (wx.alloc (.cells #[] 3)) := (Below.refl _ _).alloc (Nat.le_refl _) _
    have b2 : Below wx.heap.size wx wa := b1.trans (HCA.out.below (fun k hk => by rw [← Option.some.inj hk]; exact Nat.le_refl _) b1.size)
    have b3 := b2.alloc b2.size (.cells #[.int .i64 v] 3)
    exact b3.trans (HCB2.out.below (fun k hk => (Row.owns_lt HHA.out hk).1) b3.size))
  have HRB : Hid (Rd wb pb (qX q n nc ++ [v])) := Lib.hid (Rd.of_owns (l := qX q n nc ++ [v]) HHB.out)
  clear HHA HCA HGA HHB HCB2 HGB HO0 HLY
  go_wp2_with (go_at_call 16; fail)
  refine (nb_all (HNX.out.later HBB.out)).mono ?_
  rintro e w13 ⟨p5, c5, rfl, hr5, hb13, _⟩
  have HBW : Hid (Below wb.heap.size wb w13) := Lib.hid hb13
  have HB13 : Hid (Below wx.heap.size wx w13) := Lib.hid (HBB.out.trans (hb13.mono HBB.out.size))
  have HR5 := Lib.hid hr5
  clear hb13 hr5
  have HSM := Lib.hid (Row.same_any p5 pb c5 cb (qX q n nc ++ [v]) w13 HR5.out (HRB.out.later HBW.out) (by have := HXL.out; simp; omega))
  go_wp2_with (go_at_call 24; fail)
  have hsm := HSM.out
  simp only [List.length_append, List.length_cons, List.length_nil, Nat.zero_add] at hsm
  refine hsm.mono ?_
  rintro e w14 ⟨rfl, nz, hw14⟩
  have HB14 : Hid (Below wx.heap.size wx w14) := Lib.hid (hw14 ▸ below_drewN HB13.out nz)
  clear hw14 hsm HSM
  go_wp2_with (go_at_call 25; fail)
  refine (nb_up (HNX.out.later HB14.out)).mono ?_
  rintro e w15 ⟨rfl, hb15⟩
  have HB15 : Hid (Below wx.heap.size wx w15) := Lib.hid (HB14.out.trans (hb15.mono HB14.out.size))
  clear hb15
  have hub : (q.up == q.up) = true := by simp
  go_wp2_with (go_at_call 26; fail)
  refine (painted_any (coV (sQ q n nc)) 0 (objL (sQ q n nc)) [] p1 _ none c1 c2 0 w15 (HNX.out.later HB15.out).is (HLX.out.r1.later HB15.out) (HLX.out.r2.later HB15.out) (Rd.nil _) (by have := HLE.out; omega) (by simp) (fun a ha => ⟨coE_in ((obj_mem HNX.out.is).1 ha), by rw [if_neg (by simp)]⟩)).mono ?_
  rintro e w16 ⟨rfl, hb16⟩
  have HB16 : Hid (Below V.heap.size V w16) := Lib.hid (HPX.out.trans ((HB15.out.trans (hb16.mono HB15.out.size)).mono HPX.out.size))
  clear hb16
  go_wp2_with fail
  go_ret
  exact ⟨rfl, HB16.out⟩

set_option maxRecDepth 200000 in
set_option maxHeartbeats 8000000 in
theorem notes_P0 (q : Cs) (v : Int) (n nc S : Nat) (V : World) (hp : Pre q n nc S V) (hgb : gB q = false) (hv : v ≠ 0) (hi : v ∈ objL (sQ q n nc)) (hco : coV (sQ q n nc) v ≠ 0) (hlt : ¬ (qX q n nc).length < 1 + q.room % 6) :
    Calls Tryz.prog 3 #[(.agg #[.int .i64 q.c.b, .int .i64 q.c.wd, .int .i64 q.c.m, .int .i64 q.c.r, .int .i64 q.c.ce, .int .i64 q.c.lg, .int .i64 q.c.st, .slice q.pt q.l.length q.ct, .slice q.pb q.bl.length q.cb, .slice q.px q.xl.length q.cx, .int .u8 q.room, .bool q.up]), .int .i64 v, .bool false] V fun e w' => e = .returned (.bool true) ∧ Below V.heap.size V w' := by
  have HPR := Lib.hid hp
  have HHV := Lib.hid hv
  have HHI := Lib.hid hi
  have HHCO := Lib.hid hco
  have HHLT := Lib.hid hlt
  clear hv hi hco hlt
  have HGR : Hid (∀ W, Calls Tryz.prog 11 #[(.agg #[.int .i64 q.c.b, .int .i64 q.c.wd, .int .i64 q.c.m, .int .i64 q.c.r, .int .i64 q.c.ce, .int .i64 q.c.lg, .int .i64 q.c.st, .slice q.pt q.l.length q.ct, .slice q.pb q.bl.length q.cb, .slice q.px q.xl.length q.cx, .int .u8 q.room, .bool q.up])] W fun e w' => e = .returned (.bool false) ∧ Below W.heap.size W w') := Lib.hid fun W => by
    have h := great_any q W
    rw [hgb] at h
    exact h
  obtain ⟨V1, hV1⟩ : ∃ V1, V.alloc (.cells #[.int .i64 q.c.b, .int .i64 q.c.wd, .int .i64 q.c.m, .int .i64 q.c.r, .int .i64 q.c.ce, .int .i64 q.c.lg, .int .i64 q.c.st, .slice q.pt q.l.length q.ct, .slice q.pb q.bl.length q.cb, .slice q.px q.xl.length q.cx, .int .u8 q.room, .bool q.up] 27) = V1 := ⟨_, rfl⟩
  have HC1 : Hid (CaseAt q V1 V.heap.size) := Lib.hid (hV1 ▸ CaseAt.new q V)
  have HB1 : Hid (Below V.heap.size V V1) := Lib.hid (by rw [← hV1]; exact (Below.refl _ _).alloc (Nat.le_refl _) _)
  have HBV : Hid (∀ U, Below V1.heap.size V1 U → Below V.heap.size V U) := Lib.hid fun U hU => HB1.out.trans (hU.mono HB1.out.size)
  clear hp hgb
  obtain ⟨k0, k1, k2, k3, k4, k5, k6, k7, k8, k9, k10, k11⟩ := HC1.out
  go_enter Tryz.func3, Tryz.ntmps3
  go_wp2_with fail
  refine (HGR.out _).mono ?_
  rintro e w2 ⟨rfl, hb2⟩
  have HP2 : Hid (Below V1.heap.size V1 w2) := Lib.hid hb2
  clear hb2 HGR k0 k1 k2 k3 k4 k5 k6 k7 k8 k9 k10 k11
  go_wp2_with (go_at_call 12; fail)
  refine (awake_any _ (HPR.out.ht.later (HBV.out _ HP2.out))).mono ?_
  rintro e w3 ⟨rfl, hb3⟩
  have HP3 : Hid (Below V1.heap.size V1 w3) := Lib.hid (HP2.out.trans (hb3.mono HP2.out.size))
  clear hb3 HP2
  obtain ⟨k0, k1, k2, k3, k4, k5, k6, k7, k8, k9, k10, k11⟩ := HC1.out.later HP3.out
  go_wp2_with (go_at_call 13; fail)
  refine ((HPR.out.later (HBV.out _ HP3.out)).parts).mono ?_
  rintro e w4 ⟨H, B, X, F, d, m, rfl, hp, hm, hsm⟩
  have HPB := Lib.hid hp
  have HLE : Hid ((objL (sQ q n nc)).length ≤ 1000) := Lib.hid (obj_le hsm)
  have HP4 : Hid (Below V1.heap.size V1 w4) := Lib.hid (HP3.out.trans (hp.bel.mono HP3.out.size))
  clear hp hm hsm k0 k1 k2 k3 k4 k5 k6 k7 k8 k9 k10 k11
  go_wp2_with (go_at_call 14; fail)
  refine (new_any HPB.out).mono ?_
  rintro e w5 ⟨rfl, hn5⟩
  generalize w4.heap.size = N at *
  have HP5 : Hid (Below V1.heap.size V1 w5) := Lib.hid (HP3.out.trans ((hn5.bel.below (fun _ e => e.elim) (Nat.le_refl _)).mono HP3.out.size))
  have HN5 := Lib.hid hn5
  have HGE : Hid (∀ k, own H d B X F k → V.heap.size < k) := Lib.hid fun k hk => by
    have h1 := HPB.out.ge k hk
    have h2 := HP3.out.size
    have h3 := HC1.out.lt
    omega
  clear hn5 HPB
  go_wp2_with (go_at_call 15; fail)
  refine (colors_any w5 HN5.out.is (HPR.out.ht.later (HBV.out _ HP5.out)) (by have := HLE.out; omega)).mono ?_
  rintro e w6 ⟨p1, c1, p2, c2, rfl, hr1, hr2, hb6, hg6⟩
  have HR1 := Lib.hid hr1
  have HR2 := Lib.hid hr2
  have HG6 : Hid (∀ g, rowB p1 g ∨ rowB p2 g → ¬ own H d B X F g) := Lib.hid fun g hg hk => by
    have h1 := hg6 g hg
    have h2 := HN5.out.lt hk
    omega
  have HN6 := Lib.hid (HN5.out.later hb6)
  have HP6 : Hid (Below V1.heap.size V1 w6) := Lib.hid (HP5.out.trans (hb6.mono HP5.out.size))
  clear hr1 hr2 hb6 hg6 HN5
  have HCL : Hid ((coL (sQ q n nc)).length = (objL (sQ q n nc)).length) := Lib.hid (by simp [coL])
  have HALL := Lib.hid (fun U (hU : Below w6.heap.size w6 U) => nb_all (HN6.out.later hU))
  have HLEN := Lib.hid (fun U (hU : Below w6.heap.size w6 U) => nb_blen (HN6.out.later hU))
  have HK : Hid (∀ U, Below w6.heap.size w6 U → U.cell? ⟨V.heap.size, 10, none⟩ = some (.int .u8 q.room)) := Lib.hid fun U hU => (HC1.out.later (HP6.out.trans (hU.mono HP6.out.size))).2.2.2.2.2.2.2.2.2.2.1
  have HD0 : Hid (Below w6.heap.size w6 w6) := Lib.hid (Below.refl _ _)
  have HD1 : Hid (Below w6.heap.size w6 w6.drew) := Lib.hid (Below.refl _ _).drew
  have hrz : q.room < 256 := HPR.out.hq.r
  have hz6 : (q.room : Int) % 6 = ((q.room % 6 : Nat) : Int) := by omega
  go_wp2_with fail
  go_region_held3 (fun U => U.cell? ⟨V.heap.size, 10, none⟩ = some (.int .u8 q.room))
    (first | exact HK.out _ HD0.out | exact HK.out _ HD1.out | exact HK.out _ HX7.out | exact HK.out _ HX8.out)
    (first
      | (go_at_call 16; refine (HALL.out _ (by first | exact HD0.out | exact HD1.out)).mono ?_; rintro e w7 ⟨p3, c3, rfl, hr3, hb7, hg3⟩; have HR3 := Lib.hid hr3; have HX7 : Hid (Below w6.heap.size w6 w7) := Lib.hid (by first | exact HD1.out.trans hb7 | exact HD0.out.trans hb7); have HG3 : Hid (∀ g, rowB p3 g → w6.heap.size ≤ g) := Lib.hid hg3; clear hr3 hb7 hg3)
      | (go_at_call 17; refine (HLEN.out _ HX7.out).mono ?_; rintro e w8 ⟨rfl, hb8⟩; have HX8 : Hid (Below w6.heap.size w6 w8) := Lib.hid (HX7.out.trans (hb8.mono HX7.out.size)); have HY8 : Hid (Below w7.heap.size w7 w8) := Lib.hid hb8; clear hb8))
  rename_i hdrop
  clear hdrop
  rw [sum6 q.room hrz]
  have HN8 := Lib.hid ((HN6.out.later HX8.out).rebase (HPR.out.ht.later (HBV.out _ (HP6.out.trans (HX8.out.mono HP6.out.size)))))
  have HP8 : Hid (Below V.heap.size V w8) := Lib.hid (HBV.out _ (HP6.out.trans (HX8.out.mono HP6.out.size)))
  have HL8 : Hid (Lc w8 q V.heap.size p1 p2 p3 (objL (sQ q n nc)) (coL (sQ q n nc)) (qX q n nc)) := Lib.hid ⟨HR1.out.later HX8.out, HR2.out.later HX8.out, HR3.out.later HY8.out, HC1.out.later (HP6.out.trans (HX8.out.mono HP6.out.size))⟩
  have HOW : Hid (∀ g, (rowB p1 g ∨ rowB p2 g ∨ rowB p3 g) → ¬ own H d B X F g) := Lib.hid fun g hg hk => by
    rcases hg with hg | hg | hg
    · exact HG6.out g (.inl hg) hk
    · exact HG6.out g (.inr hg) hk
    · have h1 := HG3.out g hg
      have h2 := HN6.out.lt hk
      omega
  have HBO : Hid (¬ own H d B X F V.heap.size) := Lib.hid fun e => by have := HGE.out _ e; omega
  have HVS : Hid (∀ k, own H d B X F k → V.heap.size ≤ k) := Lib.hid fun k e => by have := HGE.out _ e; omega
  clear HK HALL HLEN HR1 HR2 HR3 HG3 HG6 HN6 HX7 HX8 HY8 HD0 HD1 HP6 HP5 HP4 HC1 HB1 HBV hrz hz6 HGE
  have hqx : addsL (1 + q.room % 6) (objL (sQ q n nc)) q.bl = qX q n nc := rfl
  have hqy : addsL 256 (objL (sQ q n nc)) q.xl = qY q n nc := rfl
  rw [hqx, hqy] at *
  clear hqx hqy
  have hv := HHV.out
  have hi := HHI.out
  have hco := HHCO.out
  have hlt := HHLT.out
  have his := HN8.out.is
  have hxl : (qX q n nc).length ≤ 6 := by
    have := addsL_len (r := 1 + q.room % 6) (al := objL (sQ q n nc)) (zs := q.bl)
    unfold qX
    omega
  have hin2 : ∀ a ∈ qX q n nc, a ∈ objL (sQ q n nc) := fun a ha => addsL_mem ha
  have hbn : ∀ a ∈ qX q n nc, bnI (sQ q n nc) a = true := fun a ha => (obj_mem his).1 (hin2 a ha)
  have HIN2 := Lib.hid hin2
  have HBN := Lib.hid hbn
  have HIS := Lib.hid his
  have hsk : ¬ nSkip 0 (sQ q n nc) v := fun e => e.elim hv (fun e => e.elim (fun e => e (coE_in ((obj_mem his).1 hi))) hco)
  have HKE : Hid (nK 0 (sQ q n nc) v (1 + q.room % 6) (qX q n nc) (qY q n nc) = (poK (coV (sQ q n nc)) 0 (qX q n nc) (qY q n nc).length + 2)) := Lib.hid (by unfold nK; rw [if_neg hv, if_neg hsk, if_neg hlt, pK_eq (Og.of his) (by rfl) hbn])
  have HSE : Hid (nS 0 (sQ q n nc) v (1 + q.room % 6) (qX q n nc) (qY q n nc) = (pT 0 (sQ q n nc) (qX q n nc) (qY q n nc))) := Lib.hid (by unfold nS; rw [if_neg hsk, if_neg hlt])
  have HXE : Hid (nX 0 (sQ q n nc) v (1 + q.room % 6) (qX q n nc) = [v]) := Lib.hid (by unfold nX; rw [if_neg hsk, if_neg hlt])
  have HUE : Hid (nU 0 (sQ q n nc) v (1 + q.room % 6) (qX q n nc) (qY q n nc) q.up = (q.up || pU 0 (sQ q n nc) (qX q n nc) (qY q n nc))) := Lib.hid (by unfold nU; rw [if_neg hsk, if_neg hlt])
  have HKL : Hid ((poK (coV (sQ q n nc)) 0 (qX q n nc) (qY q n nc).length + 2) + 1 ≤ 1000) := Lib.hid (by have := poK_le (coV (sQ q n nc)) 0 (qX q n nc) (qY q n nc).length; omega)
  have HXR : Hid ((qX q n nc).length ≤ 1 + q.room % 6) := Lib.hid addsL_len
  have HXL := Lib.hid hxl
  clear his hxl hsk hin2 hbn
  clear hv hi hco hlt
  go_wp2_with (go_at_call 20; fail)
  refine (once_any _).mono ?_
  rintro e w9 ⟨rfl, hw9⟩
  have HN9 : Hid (Nb ⟨w8, own H d B X F⟩ w9 H d (sQ q n nc) m B X F N (1 + q.room % 6) (qX q n nc) (qY q n nc) q.up [(w8.heap.size, .nilFunc)]) := Lib.hid (by
    rw [hw9]
    exact (HN8.out.later ((Below.refl _ _).alloc (Nat.le_refl _) _)).box (World.cell?_alloc_new ..) (HN8.out.not_new (Nat.le_refl _)))
  clear hw9
  have HNO := Lib.hid (note_any v 0 1 ⟨fun _ => True, fun U => ∃ d', Nb ⟨w8, own H d B X F⟩ U H d' (nS 0 (sQ q n nc) v (1 + q.room % 6) (qX q n nc) (qY q n nc)) m B X F N (1 + q.room % 6) (nX 0 (sQ q n nc) v (1 + q.room % 6) (qX q n nc)) (nY 0 (sQ q n nc) v (1 + q.room % 6) (qX q n nc) (qY q n nc)) (nU 0 (sQ q n nc) v (1 + q.room % 6) (qX q n nc) (qY q n nc) q.up) [(w8.heap.size, .nilFunc)]⟩ (fun _ _ _ _ _ _ _ => trivial) (.func (.func 76) #[] #[.pointer (some ⟨w8.heap.size, 0, none⟩)]) (.inr ⟨_, _, rfl⟩) (qX q n nc) (qY q n nc) d (sQ q n nc) q.up [(w8.heap.size, .nilFunc)] w9 HN9.out (fun U d' h => does_once _ w8.heap.size U (h.at (by simp)) trivial ⟨d', h⟩))
  rw [HKE.out] at HNO
  go_wp2_with (go_at_call 19; fail)
  refine HNO.out.mono ?_
  rintro e w10 ⟨u, rfl, hd⟩
  have HRN := Lib.hid (run_any _ _ 1000 u w10 hd HKL.out (by decide))
  clear hd HNO
  go_wp2_with (go_at_call 18; fail)
  refine HRN.out.mono ?_
  rintro e w11 ⟨rfl, d2, hn11⟩
  rw [HSE.out, HXE.out, HUE.out] at hn11
  have HN11 := Lib.hid hn11
  have HL11 : Hid (Lc w11 q V.heap.size p1 p2 p3 (objL (sQ q n nc)) (coL (sQ q n nc)) (qX q n nc)) := Lib.hid (HL8.out.chg hn11.bel HBO.out HOW.out)
  have HP11 : Hid (Below V.heap.size V w11) := Lib.hid (HP8.out.trans (hn11.bel.below HVS.out HP8.out.size))
  have HBQ : Hid (∀ n, Below w11.heap.size w11 (w11.drewN n)) := Lib.hid fun n => below_drewN (Below.refl _ _) n
  have HBD : Hid (Below w11.heap.size w11 w11.drew) := Lib.hid (Below.refl _ _).drew
  clear hn11 HRN HN9 HN8 HL8 HP8 HOW HBO HVS HKE HKL HSE HXE HUE
  have k11 := HL11.out.cs.2.2.2.2.2.2.2.2.2.2.2
  obtain ⟨rm, hrm, hrm1, hrm6⟩ : ∃ rm : Nat, 1 + (q.room : Int) % 6 = (rm : Int) ∧ 1 ≤ rm ∧ rm ≤ 6 := ⟨1 + q.room % 6, by omega, by omega, by omega⟩
  have HRM : Hid (rm = 1 + q.room % 6) := Lib.hid (by omega)
  go_wp2_with fail
  have rm1 : (1 : Int) ≤ rm := by omega
  have rm6 : (rm : Int) ≤ 6 := by omega
  clear hrm hrm1 hrm6
  have hvb : (v == 0) = false := by rw [beq_eq_false_iff_ne]; exact HHV.out
  go_quiet (fail)
  obtain ⟨wx, hwx⟩ : ∃ wx, w11.drewN nq = wx := ⟨_, rfl⟩
  rw [hwx]
  have HNX : Hid (Nb ⟨w8, own H d B X F⟩ wx H d2 (pT 0 (sQ q n nc) (qX q n nc) (qY q n nc)) m B X F N (1 + q.room % 6) [v] (nY 0 (sQ q n nc) v (1 + q.room % 6) (qX q n nc) (qY q n nc)) (q.up || pU 0 (sQ q n nc) (qX q n nc) (qY q n nc)) [(w8.heap.size, .nilFunc)]) := Lib.hid (hwx ▸ HN11.out.later (HBQ.out nq))
  have HLX : Hid (Lc wx q V.heap.size p1 p2 p3 (objL (sQ q n nc)) (coL (sQ q n nc)) (qX q n nc)) := Lib.hid (hwx ▸ HL11.out.later (HBQ.out nq))
  have HPX : Hid (Below V.heap.size V wx) := Lib.hid (hwx ▸ HP11.out.trans ((HBQ.out nq).mono HP11.out.size))
  have HRF : Hid (Below wx.heap.size wx wx) := Lib.hid (Below.refl _ _)
  clear hwx k11 HN11 HL11 HP11 HBQ HBD
  have HIN := Lib.hid (in_any p1 c1 (objL (sQ q n nc)) v wx HLX.out.r1.rd0 (by have := HLE.out; omega))
  have hdm : decide (v ∈ objL (sQ q n nc)) = true := decide_eq_true HHI.out
  rw [hdm] at HIN
  clear hdm
  have HPL := Lib.hid (place_any p1 c1 (objL (sQ q n nc)) v wx HLX.out.r1 (by have := HLE.out; omega))
  obtain ⟨hpl, hgw⟩ := was_at (cf := coV (sQ q n nc)) HHI.out
  obtain ⟨g2, off2, rfl, c2w⟩ := HLX.out.r2.at (j := plN (objL (sQ q n nc)) v) (by rw [HCL.out]; exact hpl)
  have hgw2 : (coL (sQ q n nc)).getD (plN (objL (sQ q n nc)) v) 0 = coV (sQ q n nc) v := hgw
  rw [hgw2] at c2w
  have q0 : (0 : Int) ≤ (plN (objL (sQ q n nc)) v : Int) := by omega
  have q1 : (plN (objL (sQ q n nc)) v : Int) < ((objL (sQ q n nc)).length : Int) := by omega
  have q2 : (plN (objL (sQ q n nc)) v : Int) ≤ 1000 := by have := HLE.out; omega
  have hcb : (coV (sQ q n nc) v == 0) = false := by rw [beq_eq_false_iff_ne]; exact HHCO.out
  have HCB := Lib.hid hcb
  clear hgw hgw2 hpl hcb
  generalize plN (objL (sQ q n nc)) v = pl at *
  generalize hcv : coV (sQ q n nc) v = cv at *
  have hcb := HCB.out
  clear hcv
  have hlt : decide (((qX q n nc).length : Int) < (rm : Int)) = false := decide_eq_false (by have := HHLT.out; have := HRM.out; omega)
  have hlt2 : decide ((qX q n nc).length < rm) = false := decide_eq_false (by have := HHLT.out; have := HRM.out; omega)
  go_wp2_with (first | (go_at_call 21; refine HIN.out.mono ?_; rintro e w9 ⟨rfl, hw9⟩; cases hw9) | (go_at_call 22; refine HPL.out.mono ?_; rintro e w9 ⟨rfl, hw9⟩; cases hw9) | (go_at_call 23; fail))
  refine (poured_any (coV (sQ q n nc)) 0 (qY q n nc).length (objL (sQ q n nc)) (qX q n nc) p1 (some ⟨g2, off2, none⟩) p3 c1 c2 c3 wx HLX.out.r1 HLX.out.r2 HLX.out.r3 (by have := HLE.out; omega) (by have := HXL.out; omega) HIN2.out).mono ?_
  rintro e wb ⟨pf, cf, rfl, hrf, hbb⟩
  have HBB : Hid (Below wx.heap.size wx wb) := Lib.hid hbb
  have HFR0 := Lib.hid hrf
  have HKP := Lib.hid (poK_le (coV (sQ q n nc)) 0 (qX q n nc) (qY q n nc).length)
  have HFL0 := Lib.hid (poR_le (coV (sQ q n nc)) 0 (qX q n nc) (qY q n nc).length)
  have HPUE := Lib.hid (pU_eq (Og.of HIS.out) (c := 0) (by rfl) HBN.out (qY q n nc))
  have HOK := Lib.hid (pT_ok (Og.of HIS.out) (c := 0) (by rfl) HBN.out (qY q n nc) (objL (sQ q n nc)) (fun a ha => (obj_mem HIS.out).1 ha))
  clear hrf hbb
  generalize (poR (coV (sQ q n nc)) 0 (qX q n nc) (qY q n nc).length) = fr at *
  generalize (poK (coV (sQ q n nc)) 0 (qX q n nc) (qY q n nc).length) = kk at *
  obtain ⟨fl, hfl⟩ : ∃ fl, fr.length = fl := ⟨_, rfl⟩
  rw [hfl]
  have HFL := Lib.hid hfl
  clear hfl
  obtain ⟨bb, hbb⟩ : ∃ bb, decide (0 < fl) = bb := ⟨_, rfl⟩
  have hbi : decide ((0 : Int) < (fl : Int)) = bb := by rw [← hbb]; simp
  have HNX2 : Hid (Nb ⟨w8, own H d B X F⟩ wx H d2 (pT 0 (sQ q n nc) (qX q n nc) (qY q n nc)) m B X F N (1 + q.room % 6) [v] (nY 0 (sQ q n nc) v (1 + q.room % 6) (qX q n nc) (qY q n nc)) (q.up || bb) [(w8.heap.size, .nilFunc)]) := Lib.hid (by
    have h := HNX.out
    rw [HPUE.out, HFL.out, hbb] at h
    exact h)
  have hk8 : (kk : Int) ≤ 8 := by have := HKP.out; have := HXL.out; omega
  have hk0 : (0 : Int) ≤ (kk : Int) := by omega
  have hse : ((kk : Int) + 2 + 1 == 3 + (kk : Int)) = true := by rw [beq_iff_eq]; omega
  have hle : (kk : Int) + 2 + 1 ≤ 5 + (rm : Int) := by have := HKP.out; have := HXR.out; have := HRM.out; omega
  have hle2 : decide ((kk : Int) + 2 + 1 ≤ 5 + (rm : Int)) = true := decide_eq_true hle
  have HRV : Hid (Rd0 (wb.alloc (.cells #[.int .i64 v] 3)) (some ⟨wb.heap.size, 0, none⟩) [v]) := Lib.hid (one_rd0 wb v)
  have HAL : Hid (Below wx.heap.size wx (wb.alloc (.cells #[.int .i64 v] 3))) := Lib.hid (HBB.out.alloc HBB.out.size _)
  have HFRA : Hid (Rd (wb.alloc (.cells #[.int .i64 v] 3)) pf fr) := Lib.hid (HFR0.out.later ((Below.refl _ _).alloc (Nat.le_refl _) _))
  obtain ⟨ub, hub0⟩ : ∃ ub, q.up = ub := ⟨_, rfl⟩
  rw [hub0] at HNX2 ⊢
  clear hub0 HNX HPUE
  cases ub
  all_goals
    go_wp2_with (go_at_call 16; fail)
    refine (nb_all (HNX2.out.later HAL.out)).mono ?_
    rintro e w13 ⟨p5, c5, rfl, hr5, hb13, _⟩
    have HBW : Hid (Below (wb.alloc (.cells #[.int .i64 v] 3)).heap.size (wb.alloc (.cells #[.int .i64 v] 3)) w13) := Lib.hid hb13
    have HB13 : Hid (Below wx.heap.size wx w13) := Lib.hid (HAL.out.trans (hb13.mono HAL.out.size))
    have HR5 := Lib.hid hr5
    clear hb13 hr5
    go_wp2_with (go_at_call 24; fail)
    refine (Row.same_ints p5 (some ⟨wb.heap.size, 0, none⟩) c5 1 [v] w13 HR5.out.rd0 (rd0_later HRV.out HBW.out) (by simp)).mono ?_
    rintro e w14 ⟨rfl, nz, hw14⟩
    have HB14 : Hid (Below wx.heap.size wx w14) := Lib.hid (hw14 ▸ below_drewN HB13.out nz)
    have HBZ : Hid (Below (wb.alloc (.cells #[.int .i64 v] 3)).heap.size (wb.alloc (.cells #[.int .i64 v] 3)) w14) := Lib.hid (hw14 ▸ below_drewN HBW.out nz)
    clear hw14
    go_wp2_with (go_at_call 25; fail)
    refine (nb_up (HNX2.out.later HB14.out)).mono ?_
    rintro e w15 ⟨rfl, hb15⟩
    have HB15 : Hid (Below wx.heap.size wx w15) := Lib.hid (HB14.out.trans (hb15.mono HB14.out.size))
    have HBY : Hid (Below (wb.alloc (.cells #[.int .i64 v] 3)).heap.size (wb.alloc (.cells #[.int .i64 v] 3)) w15) := Lib.hid (HBZ.out.trans (hb15.mono HBZ.out.size))
    clear hb15
    have hub : (bb == bb) = true := by simp
    have HPN := Lib.hid (painted_any (coV (sQ q n nc)) 0 (objL (sQ q n nc)) fr p1 _ pf c1 c2 cf w15 (HNX2.out.later HB15.out).is (HLX.out.r1.later HB15.out) (HLX.out.r2.later HB15.out) (HFRA.out.later HBY.out) (by have := HLE.out; omega) (by have := HFL0.out; have := HXL.out; omega) HOK.out)
    rw [HFL.out] at HPN
    go_wp2_with (go_at_call 26; fail)
    refine HPN.out.mono ?_
    rintro e w16 ⟨rfl, hb16⟩
    have HB16 : Hid (Below V.heap.size V w16) := Lib.hid (HPX.out.trans ((HB15.out.trans (hb16.mono HB15.out.size)).mono HPX.out.size))
    clear hb16
    go_wp2_with fail
    go_ret
    exact ⟨rfl, HB16.out⟩
end Go.Proofs.YtkfgchhlekdpgaaGreatDoor.Nt
