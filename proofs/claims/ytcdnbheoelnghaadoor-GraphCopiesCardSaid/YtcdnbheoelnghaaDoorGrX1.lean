/-
  GraphCopies.
-/
import Derived.Test.YtcdnbheoelnghaaDoorGrM3
import Derived.Deep.RegionHeld3
namespace Go.Proofs.YtcdnbheoelnghaaDoor.Gra
open Go.RowKit Go.Proofs.YtcdnbheoelnghaaDoor.Opr
open Go.Proofs.YtcdnbheoelnghaaDoor.Row (rowB rowB_none Chg other same Rd same_any)

set_option maxRecDepth 2000000 in
set_option maxHeartbeats 16000000 in
theorem copies_walk (c : C7) (pd : Option Addr) (cd : Nat) (ld : List DQ) (px : Option Addr) (cx : Nat) (lx : List DQ) (w : World) (ht : FormTab w) (hl : LimTab w) (hd : DeedsAt w pd ld) (hlen : ld.length ≤ maxLen) (hdx : DeedsAt w px lx) (hlenx : lx.length ≤ maxLen) :
    Calls Tryd.prog 4 #[(.agg #[.int .i64 c.b, .int .i64 c.wd, .int .i64 c.m, .int .i64 c.r, .int .i64 c.ce, .int .i64 c.lg, .int .i64 c.st]), .slice pd ld.length cd, .slice px lx.length cx] w fun e w' => e = .returned (.bool true) ∧ Below w.heap.size w w' := by
  unfold maxLen at hlen hlenx
  have HT := Lib.hid ht
  have HL := Lib.hid hl
  have HD := Lib.hid hd
  have HDX := Lib.hid hdx
  have HLENX := Lib.hid hlenx
  have HLEN := Lib.hid hlen
  have HR := Lib.hid (little_right c)
  obtain ⟨M, r, nc, hM, hr, hnc, hM1, hM4, hr1, hr5, hnc3⟩ := little_nat c
  have HNR := Lib.hid (And.intro hM (And.intro hr (And.intro hnc (And.intro hM4 (And.intro hr5 hnc3)))))
  clear ht hl hd hlen hdx hM hr hnc hM1 hM4 hr1 hr5 hnc3
  go_enter Tryd.func4, Tryd.ntmps4
  go_wp2_with fail
  refine (little_any c _).mono ?_
  rintro e w1 ⟨rfl, hb⟩
  have hblk : w1.heap[w.heap.size]? = some (.cells #[.int .i64 c.b, .int .i64 c.wd, .int .i64 c.m, .int .i64 c.r, .int .i64 c.ce, .int .i64 c.lg, .int .i64 c.st] 23) := by
    rw [hb.block w.heap.size (by simp)]
    exact heap_alloc_new w _
  have HW := Lib.hid (fun W2 hW => box7 (d := little c) (W2 := W2) hblk hW)
  have HB1 : Hid (Below w.heap.size w w1) := Lib.hid (((Below.refl _ w).alloc (Nat.le_refl _) _).trans (hb.mono (by simp)))
  obtain ⟨hc1, hf1⟩ := bcell hb
  have hz1 : w.heap.size < w1.heap.size := by have := hb.size; simp at this; omega
  clear hb hblk
  generalize hL : little c = d at *
  clear hL
  by_cases hbig : 60 < ld.length
  · have h1 : (60 : Int) < (ld.length : Int) := by omega
    go_wp2_with fail
    generalize hW : World.setCell _ _ _ = W2
    obtain ⟨hbox, hoth, hsz, hbw⟩ := HW.out W2 hW
    have hb2 : Below w.heap.size w W2 := HB1.out.trans (hbw _ (Nat.le_refl _))
    refine (awake_any _ (HT.out.later hb2) (HL.out.later hb2)).mono ?_
    rintro e w3 ⟨rfl, hb3⟩
    have HF := Lib.hid (hb2.trans (hb3.mono hb2.size))
    clear hW HW hc1 hf1 hz1 hb2 hbox hb3 hoth hsz hbw
    go_wp2
    go_ret
    exact ⟨rfl, HF.out⟩
  have h1 : (ld.length : Int) ≤ 60 := by omega
  have hd1 : decide ((60 : Int) < (ld.length : Int)) = false := by simpa using h1
  by_cases hbigx : 30 < lx.length
  · have h2 : (30 : Int) < (lx.length : Int) := by omega
    go_wp2_with fail
    generalize hW : World.setCell _ _ _ = W2
    obtain ⟨hbox, hoth, hsz, hbw⟩ := HW.out W2 hW
    have hb2 : Below w.heap.size w W2 := HB1.out.trans (hbw _ (Nat.le_refl _))
    refine (awake_any _ (HT.out.later hb2) (HL.out.later hb2)).mono ?_
    rintro e w3 ⟨rfl, hb3⟩
    have HF := Lib.hid (hb2.trans (hb3.mono hb2.size))
    clear hW HW hc1 hf1 hz1 hb2 hbox hb3 hoth hsz hbw
    go_wp2
    go_ret
    exact ⟨rfl, HF.out⟩
  have h2 : (lx.length : Int) ≤ 30 := by omega
  have hd2 : decide ((30 : Int) < (lx.length : Int)) = false := by simpa using h2
  go_wp2_with fail
  generalize hW : World.setCell _ _ _ = W1
  obtain ⟨hbox, hoth, hsz, hbw⟩ := HW.out W1 hW
  have hb2 : Below w.heap.size w W1 := HB1.out.trans (hbw _ (Nat.le_refl _))
  clear hW HW hc1 hf1 hoth hbw HB1
  rw [← hsz] at hz1
  refine (awake_any _ (HT.out.later hb2) (HL.out.later hb2)).mono ?_
  rintro e W2 ⟨rfl, hb3⟩
  have HB2 := Lib.hid (hb2.trans (hb3.mono hb2.size))
  have HX2 := Lib.hid (hbox.later hb3)
  have hz2 : w.heap.size < W2.heap.size := Nat.lt_of_lt_of_le hz1 hb3.size
  clear hb2 hb3 hbox hz1 hsz
  obtain ⟨b, wd, m, rr, ce, lg, st⟩ := d
  obtain ⟨rfl, rfl, rfl, hM4, hr5, hnc3⟩ := HNR.out
  have c0 := HX2.out 0 _ rfl
  have c1 := HX2.out 1 _ rfl
  have c2 := HX2.out 2 _ rfl
  have c3 := HX2.out 3 _ rfl
  have c4 := HX2.out 4 _ rfl
  have c5 := HX2.out 5 _ rfl
  have c6 := HX2.out 6 _ rfl
  simp only at c0 c1 c2 c3 c4 c5 c6
  have HNEW := Lib.hid (new_any b wd lg st M r nc HR.out (by omega) (by omega) (by omega) W2 (HL.out.later HB2.out))
  have HBD := Lib.hid (And.intro hM4 (And.intro hr5 hnc3))
  clear hM4 hr5 hnc3 HNR
  go_wp2_with fail
  refine HNEW.out.mono ?_
  rintro e W3 ⟨G, rfl, hP⟩
  have hG := Gx.start (bx := [cv ⟨b, wd, M, r, nc, lg, st⟩]) ⟨rfl, rfl, rfl⟩ HB2.out (fun i l hl => by
    match i, hl with
    | 0, hl => cases hl; exact HX2.out) hz2 hP
  have HG := Lib.hid hG
  clear hP hG HX2 HNEW hz2 c0 c1 c2 c3 c4 c5 c6
  generalize hbx : [cv ⟨b, wd, M, r, nc, lg, st⟩] = bx at *
  have HBX := Lib.hid hbx
  clear hbx
  go_wp2_with fail
  go_loopw [9] (fun i wr => ∃ j : Nat, j ≤ ld.length ∧ i = .int .i64 j ∧ Gx w wr bx ⟨b, wd, M, r, nc, lg, st⟩ G (sAt ⟨b, wd, M, r, nc, lg, st⟩ (s0 nc r M) ld j) M r nc) (fun i _ => ld.length - (intOf i).toNat)
  case atStart => exact ⟨0, Nat.zero_le _, rfl, HG.out⟩
  case round =>
    clear HG
    obtain ⟨j, hj, rfl, hgx⟩ := hrel
    have HX := Lib.hid hgx
    clear hgx
    have j0 : (0 : Int) ≤ (j : Int) := by omega
    have HNO := Lib.hid (sAt_wf (b := b) (wd := wd) (lg := lg) (st := st) (M := M) (r := r) (nc := nc) ld j)
    by_cases hlt : j < ld.length
    · have j1 : (j : Int) < (ld.length : Int) := by omega
      obtain ⟨B, off, rfl, e0, e1, e2, e3, e4⟩ := (HD.out.later HX.out.bel) j hlt
      have HDO := Lib.hid (fun V hV => Gx.do HX.out (by have := HNO.out.2; omega) HT.out HL.out (dq ld j) V hV)
      have HS : Hid (gS ⟨b, wd, M, r, nc, lg, st⟩ (sAt ⟨b, wd, M, r, nc, lg, st⟩ (s0 nc r M) ld j) (dq ld j) = sAt ⟨b, wd, M, r, nc, lg, st⟩ (s0 nc r M) ld (j + 1)) := Lib.hid rfl
      rw [HS.out] at HDO
      have HR0 : Hid (Below wr.heap.size wr wr) := Lib.hid (Below.refl _ _)
      have HR1 : Hid (Below wr.heap.size wr wr.drew) := Lib.hid (Below.refl _ _).drew
      generalize gV _ _ _ = v1 at HDO
      generalize gE _ _ _ = v2 at HDO
      generalize dq ld j = q at *
      obtain ⟨q0, q1, q2, q3, q4⟩ := q
      simp only at e0 e1 e2 e3 e4 HDO
      clear HX HNO HS
      go_wp2_with fail
      go_region_with (go_at_call 9; refine (HDO.out _ (by first | exact HR0.out | exact HR1.out)).mono ?_; rintro e W5 ⟨rfl, hg5⟩; have HG5 := Lib.hid hg5; clear hg5)
      all_goals go_wp2_with fail
      all_goals go_roundw
      all_goals first
        | exact ⟨j + 1, by omega, by go_num, HG5.out⟩
        | (simp [intOf]; omega)
    · obtain rfl : j = ld.length := by omega
      have HCP := Lib.hid (fun V hV => Gx.copy HX.out (by have := HNO.out.2; omega) (by have := HBD.out.1; omega) (by have := HBD.out.2.1; omega) (by have := HBD.out.2.2; omega) V hV)
      have HS5 : Hid ((sAt ⟨b, wd, M, r, nc, lg, st⟩ (s0 nc r M) ld ld.length).nO ≤ 60) := Lib.hid (by have := HNO.out.2; omega)
      generalize sAt ⟨b, wd, M, r, nc, lg, st⟩ (s0 nc r M) ld ld.length = s at *
      clear HX HNO HR HD
      go_wp2_with (go_at_call 21; fail)
      refine (HCP.out _ (Below.refl _ _)).mono ?_
      rintro e W5 ⟨G2, rfl, hbt⟩
      have HBT := Lib.hid (Br.of hbt)
      have HRC := Lib.hid (Gx.reach hbt.fst (by have := HBD.out.1; omega) (by have := HBD.out.2.1; omega) (by have := HBD.out.2.2; omega) (by have := HS5.out; omega) W5 (Below.refl _ _))
      have HCT := Lib.hid (fun V hV => Gx.count hbt.fst V hV)
      have HLN : Hid ((rcS s).length ≤ 61) := Lib.hid (Nat.le_trans (rcS_len s) (by have := HS5.out; omega))
      have HWF := Lib.hid hbt.fst.wf
      clear hbt HCP
      go_wp2_with (first
        | (go_at_call 15; refine HRC.out.mono ?_; rintro e W6 ⟨p1, k1, rfl, ho1, hb1⟩; have HO1 := Lib.hid ho1; have HB1 := Lib.hid hb1; clear ho1 hb1)
        | (go_at_call 11; refine (HCT.out _ HB1.out).mono ?_; rintro e w9 ⟨rfl, hw9⟩; cases hw9))
      have HBR := Lib.hid (HBT.out.add HB1.out HO1.out)
      generalize hL : rcS s = L at *
      have HLS := Lib.hid hL
      have HSN : Hid (s.nO ≤ 60) := HS5
      generalize hn0 : s.nO = n0 at *
      have HN0 := Lib.hid hn0
      clear hL hn0 HBT HRC HCT HO1 HB1
      go_loopw [13] (fun i wr => ∃ j : Nat, j ≤ lx.length ∧ i = .int .i64 j ∧ Br w wr bx ⟨b, wd, M, r, nc, lg, st⟩ G s G2 (sAt ⟨b, wd, M, r, nc, lg, st⟩ s lx j) M r nc [(p1, L)]) (fun i _ => lx.length - (intOf i).toNat)
      case atStart => exact ⟨0, Nat.zero_le _, rfl, HBR.out⟩
      case round =>
        clear HBR
        obtain ⟨a, ha, rfl, hbr⟩ := hrel
        have HBR := Lib.hid hbr
        clear hbr
        have a0 : (0 : Int) ≤ (a : Int) := by omega
        have HNO := Lib.hid (sAt_wf2 (b := b) (wd := wd) (lg := lg) (st := st) HWF.out lx a)
        by_cases hlt : a < lx.length
        · have a1 : (a : Int) < (lx.length : Int) := by omega
          have hn90 : (sAt ⟨b, wd, M, r, nc, lg, st⟩ s lx a).nO ≤ 90 := by have := HNO.out.2; have := HSN.out; have := HN0.out; omega
          have HS : Hid (gS ⟨b, wd, M, r, nc, lg, st⟩ (sAt ⟨b, wd, M, r, nc, lg, st⟩ s lx a) (dq lx a) = sAt ⟨b, wd, M, r, nc, lg, st⟩ s lx (a + 1)) := Lib.hid rfl
          generalize hs3e : sAt ⟨b, wd, M, r, nc, lg, st⟩ s lx (a + 1) = s3 at HS
          have HS3 := Lib.hid hs3e
          clear hs3e
          generalize sAt ⟨b, wd, M, r, nc, lg, st⟩ s lx a = s2 at *
          have HN90 := Lib.hid hn90
          have HRC := Lib.hid (Gx.reach HBR.out.bt.snd (by have := HBD.out.1; omega) (by have := HBD.out.2.1; omega) (by have := HBD.out.2.2; omega) (by omega) wr (Below.refl _ _))
          have HCT := Lib.hid (fun V hV => Gx.count HBR.out.bt.snd V hV)
          have HDX2 : Hid (∃ B off, px = some ⟨B, off, none⟩) := Lib.hid (by obtain ⟨B, off, e, _⟩ := (HDX.out.later HBR.out.bt.fst.bel) a hlt; exact ⟨B, off, e⟩)
          obtain ⟨B, off, hpx⟩ := HDX2.out
          subst hpx
          have HDS : Hid (∀ V, Below w.heap.size w V → V.cell? ⟨B, off + a * 5, none⟩ = some (.int .i64 (dq lx a).1) ∧ V.cell? ⟨B, off + a * 5 + 1, none⟩ = some (.int .i64 (dq lx a).2.1) ∧
              V.cell? ⟨B, off + a * 5 + 2, none⟩ = some (.int .i64 (dq lx a).2.2.1) ∧ V.cell? ⟨B, off + a * 5 + 3, none⟩ = some (.int .i64 (dq lx a).2.2.2.1) ∧ V.cell? ⟨B, off + a * 5 + 4, none⟩ = some (.int .i64 (dq lx a).2.2.2.2)) := Lib.hid fun V hV => by
            obtain ⟨B', off', e, k0, k1, k2, k3, k4⟩ := (HDX.out.later hV) a hlt
            cases e
            exact ⟨k0, k1, k2, k3, k4⟩
          have HDD := Lib.hid (fun (w1 : World) (R : List (Option Addr × List Int)) (h : Br w w1 bx ⟨b, wd, M, r, nc, lg, st⟩ G s G2 s2 M r nc R) V hV => Br.do h (by have := HN90.out; omega) HT.out HL.out (dq lx a) V hV)
          have HER := Lib.hid (gE_err (c := ⟨b, wd, M, r, nc, lg, st⟩) (s := s2) (q := dq lx a))
          rw [HS.out] at HER
          simp only [HS.out] at HDD
          generalize hv1 : gV ⟨b, wd, M, r, nc, lg, st⟩ s2 (dq lx a) = v1 at HDD HER
          generalize hv2 : gE ⟨b, wd, M, r, nc, lg, st⟩ s2 (dq lx a) = v2 at HDD HER
          clear hv1 hv2 HS hn90 HNO HDX
          generalize dq lx a = q at *
          obtain ⟨q0, qk, qa, qb, qc⟩ := q
          simp only at HDD HDS
          have HLN2 : Hid ((rcS s2).length ≤ 91) := Lib.hid (Nat.le_trans (rcS_len s2) (by have := HN90.out; omega))
          go_wp2_with (go_at_call 15; fail)
          refine HRC.out.mono ?_
          rintro e W7 ⟨p2, k2, rfl, ho2, hb2⟩
          have HO2 := Lib.hid ho2
          have HB2 := Lib.hid hb2
          clear ho2 hb2
          go_wp2_with (go_at_call 11; fail)
          refine (HCT.out _ HB2.out).mono ?_
          rintro e w9 ⟨rfl, hw9⟩
          obtain rfl : W7 = w9 := hw9.symm
          clear hw9
          have HBR7 := Lib.hid (HBR.out.add HB2.out HO2.out)
          have HDO := Lib.hid (HDD.out W7 _ HBR7.out)
          obtain ⟨e0, e1, e2, e3, e4⟩ := HDS.out W7 HBR7.out.bt.fst.bel
          have HB50 := Lib.hid HBR7.out.bt.fst.bel
          have HB51 := Lib.hid HBR7.out.bt.fst.bel.drew
          have HR0 : Hid (Below W7.heap.size W7 W7) := Lib.hid (Below.refl _ _)
          have HR1 : Hid (Below W7.heap.size W7 W7.drew) := Lib.hid (Below.refl _ _).drew
          clear HO2 HB2 HRC HCT HDD HBR
          generalize hL2 : rcS s2 = L2 at *
          have HL2S := Lib.hid hL2
          generalize hm2 : s2.nO = m2 at *
          have HM2 := Lib.hid hm2
          have m90 : (m2 : Int) ≤ 90 := by have := HN90.out; omega
          clear hL2 hm2
          go_wp2_with fail
          go_region_held3 (fun U => U.cell? ⟨B, off + a * 5, none⟩ = some (.int .i64 q0) ∧ U.cell? ⟨B, off + a * 5 + 1, none⟩ = some (.int .i64 qk) ∧ U.cell? ⟨B, off + a * 5 + 2, none⟩ = some (.int .i64 qa) ∧ U.cell? ⟨B, off + a * 5 + 3, none⟩ = some (.int .i64 qb) ∧ U.cell? ⟨B, off + a * 5 + 4, none⟩ = some (.int .i64 qc))
            (first | exact HDS.out _ HB50.out | exact HDS.out _ HB51.out | exact HDS.out _ HBT.out.bt.fst.bel)
            ((go_at_call 9; refine (HDO.out _ (by first | exact HR0.out | exact HR1.out)).mono ?_; rintro e W8 ⟨rfl, hbt⟩; have HBT := Lib.hid hbt; clear hbt))
          rename_i hdrop
          clear hdrop e0 e1 e2 e3 e4 HDO HDS HB50 HB51 HR0 HR1 HBR7
          by_cases he : v2 = 0
          · subst he
            have HFI := Lib.hid HBT.out.tail
            go_wp2_with fail
            go_roundw
            case rel => exact ⟨a + 1, by omega, by go_num, by rw [HS3.out]; exact HFI.out⟩
            case measure => simp [intOf]; omega
          · have hee : (v2 != 0) = true := bne_iff_ne.2 he
            obtain ⟨_, hs3⟩ := HER.out he
            rw [hs3] at HBT
            have HS32 := Lib.hid hs3
            have HRC := Lib.hid (Gx.reach HBT.out.bt.snd (by have := HBD.out.1; omega) (by have := HBD.out.2.1; omega) (by have := HBD.out.2.2; omega) (by have := HN90.out; have := HM2.out; omega) W8 (Below.refl _ _))
            have HCT := Lib.hid (fun V hV => Gx.count HBT.out.bt.snd V hV)
            rw [HL2S.out] at HRC
            simp only [HM2.out] at HCT
            clear he hs3 HER
            go_wp2_with (go_at_call 15; fail)
            refine HRC.out.mono ?_
            rintro e W9 ⟨p3, k3, rfl, ho3, hb3⟩
            have HB9 := Lib.hid (HBT.out.later hb3)
            have HSM := Lib.hid (same_any p3 p2 k3 k2 L2 W9 (Rd.of_owns ho3) (HB9.out.rd (List.mem_cons_self ..)) (by have := HLN2.out; omega))
            have HB3 := Lib.hid hb3
            clear ho3 hb3 HRC
            go_wp2_with (go_at_call 12; fail)
            refine HSM.out.mono ?_
            rintro e W10 ⟨rfl, n9, hw9⟩
            have HB10 := Lib.hid (HB9.out.later (hw9 ▸ below_drewN (Below.refl _ W9) n9))
            have HB310 := Lib.hid (HB3.out.trans ((hw9 ▸ below_drewN (Below.refl _ W9) n9 : Below W9.heap.size W9 W10).mono HB3.out.size))
            clear hw9 HSM
            go_wp2_with (go_at_call 11; fail)
            refine (HCT.out _ HB310.out).mono ?_
            rintro e w9 ⟨rfl, hw9⟩
            obtain rfl : W10 = w9 := hw9.symm
            clear hw9
            have hmm : ((m2 : Int) != (m2 : Int)) = false := by simp
            have HFI := Lib.hid HB10.out.tail
            go_wp2_with fail
            go_roundw
            case rel => exact ⟨a + 1, by omega, by go_num, by rw [HS3.out, HS32.out]; exact HFI.out⟩
            case measure => simp [intOf]; omega
        · obtain rfl : a = lx.length := by omega
          have HRC := Lib.hid (Gx.reach HBR.out.bt.fst (by have := HBD.out.1; omega) (by have := HBD.out.2.1; omega) (by have := HBD.out.2.2; omega) (by have := HSN.out; have := HN0.out; omega) wr (Below.refl _ _))
          have HCT := Lib.hid (fun V hV => Gx.count HBR.out.bt.fst V hV)
          rw [HLS.out] at HRC
          simp only [HN0.out] at HCT
          clear HNO
          go_wp2_with (go_at_call 15; fail)
          refine HRC.out.mono ?_
          rintro e W9 ⟨p3, k3, rfl, ho3, hb3⟩
          have HB9 := Lib.hid (HBR.out.later hb3)
          have HSM := Lib.hid (same_any p3 p1 k3 k1 L W9 (Rd.of_owns ho3) (HB9.out.rd (List.mem_cons_self ..)) (by have := HLN.out; omega))
          have HB3 := Lib.hid hb3
          clear ho3 hb3 HRC
          go_wp2_with (go_at_call 12; fail)
          refine HSM.out.mono ?_
          rintro e W10 ⟨rfl, n9, hw9⟩
          have HFB := Lib.hid (HB9.out.bt.fst.bel.trans ((hw9 ▸ below_drewN (Below.refl _ W9) n9 : Below W9.heap.size W9 W10).mono HB9.out.bt.fst.bel.size))
          have HB310 := Lib.hid (HB3.out.trans ((hw9 ▸ below_drewN (Below.refl _ W9) n9 : Below W9.heap.size W9 W10).mono HB3.out.size))
          clear hw9 HSM
          go_wp2_with (go_at_call 11; fail)
          refine (HCT.out _ HB310.out).mono ?_
          rintro e w9 ⟨rfl, hw9⟩
          obtain rfl : W10 = w9 := hw9.symm
          clear hw9
          go_wp2_with fail
          go_ret
          exact ⟨rfl, HFB.out⟩
end Go.Proofs.YtcdnbheoelnghaaDoor.Gra
