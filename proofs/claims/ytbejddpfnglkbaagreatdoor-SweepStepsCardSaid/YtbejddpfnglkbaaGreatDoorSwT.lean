/-
  The law SweepSteps answers true.
-/
import Derived.Test.YtbejddpfnglkbaaGreatDoorSwP
namespace Go.Proofs.YtbejddpfnglkbaaGreatDoor.Sw
open Go.RowKit
open Blk (Cfg TbIs kAt seg seg_length perN allP allP_succ allP_len blk adr little little_any little_right)
open Hp (Ids St Wf Is To Mine bnI bn coE coV frE frS colB holdsF own cls fr puS unS mkE mkS mkA st0 objL NewRow mem_allP)
open Rf (Rp RTo Pu Ri Sl All Bo Lo Keep mkW)
open Go.Proofs.YtbejddpfnglkbaaGreatDoor.Row (Chg Rd Rd0 cell_of_block frozen_of_block other same rowB cellsZ cellsZ_length cellsZ_at cellsZ_snoc owns_lt owns_chg owns_slice owns_base owns_cap owns_block push_row info_parts infoInt one_at)
open Go.Proofs.YtbejddpfnglkbaaGreatDoor.Addr (Tabs)

set_option maxRecDepth 100000 in
set_option maxHeartbeats 8000000 in
theorem steps_walk (c : Cfg) (pa : Option Addr) (ca : Nat) (l : List (Nat × Nat × Bool)) (q0 q1 q2 : Nat) (w : World) (ht : Tabs w) (hl : ThingsP w.heap.size w pa l) (hla : l.length ≤ maxLen) (hb0 : q0 < 256) (hb1' : q1 < 256) (hb2' : q2 < 256) :
    Calls Tryz.prog 4 #[(.agg #[.int .i64 c.b, .int .i64 c.wd, .int .i64 c.m, .int .i64 c.r, .int .i64 c.ce, .int .i64 c.lg, .int .i64 c.st]), .slice pa l.length ca, .agg #[.int .u8 q0, .int .u8 q1, .int .u8 q2]] w fun e w' => e = .returned (.bool true) ∧ Below w.heap.size w w' := by
  have HT := Lib.hid ht
  have HTH := Lib.hid hl
  have HR := Lib.hid (little_right c)
  obtain ⟨nc, hnc, hnc3⟩ := little_ce' c
  obtain ⟨n, hn, hn2⟩ := little_n' c
  have HNC := Lib.hid hnc
  have HN := Lib.hid hn
  clear ht hl hnc hn
  go_enter Tryz.func4, Tryz.ntmps4
  go_wp2_with fail
  refine (little_any c _).mono ?_
  rintro e w1 ⟨rfl, hb1⟩
  have HB1 : Hid (Below w.heap.size w w1) := Lib.hid ((((Below.refl _ w).alloc (Nat.le_refl _) _).alloc (by simp) _).trans (hb1.mono (by simp; omega)))
  have HQ0 : Hid (w1.cell? ⟨w.heap.size + 1, 0, none⟩ = some (.int .u8 q0)) := Lib.hid (by
    rw [hb1.cell (p := ⟨w.heap.size + 1, 0, none⟩) (by simp)]
    simp)
  have HQ1 : Hid (w1.cell? ⟨w.heap.size + 1, 1, none⟩ = some (.int .u8 q1)) := Lib.hid (by
    rw [hb1.cell (p := ⟨w.heap.size + 1, 1, none⟩) (by simp)]
    simp)
  have HQ2 : Hid (w1.cell? ⟨w.heap.size + 1, 2, none⟩ = some (.int .u8 q2)) := Lib.hid (by
    rw [hb1.cell (p := ⟨w.heap.size + 1, 2, none⟩) (by simp)]
    simp)
  have hq9 : w.heap.size + 1 < w1.heap.size := World.block_lt_of_cell? w1 _ HQ0.out
  clear hb1
  go_wp2_with fail
  refine (made_any w.heap.size (little c) n nc pa ca l w1 (HT.out.later HB1.out) HR.out HN.out HNC.out (by omega) HB1.out.size (HTH.out.below HB1.out) hla).mono ?_
  rintro e w2 ⟨H, M, base, d, i, m, rfl, hmad⟩
  have HSM := Lib.hid hmad.sm
  have HM7 := Lib.hid hmad.hm
  have HL2 := Lib.hid (hmad.lw (Below.refl w1.heap.size w1))
  clear hmad
  generalize madeS (st0 (little c) n nc) (l.take 40) = s at *
  go_wp2_with fail
  refine (awake_any w2 HL2.out.bo.tb).mono ?_
  rintro e w3 ⟨rfl, hb3⟩
  have HL3 := Lib.hid (HL2.out.later hb3)
  clear hb3 HL2
  have cU := HL3.out.bo.rp.mem.cU
  have hk4 := HSM.out.ks
  by_cases hk0 : s.ks.length = 0
  · have hz : ((s.ks.length : Int) == 0) = true := by rw [hk0]; rfl
    go_wp2_with fail
    go_ret
    exact ⟨rfl, HB1.out.trans (HL3.out.bel.mono HB1.out.size)⟩
  have hz : ((s.ks.length : Int) == 0) = false := by rw [beq_eq_false_iff_ne]; omega
  have hz1 : ¬ (s.ks.length : Int) = 0 := by omega
  have hz2 : (0 : Int) < (s.ks.length : Int) := by omega
  have hq0 := (HL3.out.bel.cell (p := ⟨w.heap.size + 1, 0, none⟩) hq9).trans HQ0.out
  have hq1 := (HL3.out.bel.cell (p := ⟨w.heap.size + 1, 1, none⟩) hq9).trans HQ1.out
  have n0 : (0 : Int) ≤ (q0 : Int) := Int.natCast_nonneg _
  have n1 : (0 : Int) ≤ (q1 : Int) := Int.natCast_nonneg _
  have n0b : (q0 : Int) < 256 := by omega
  have n1b : (q1 : Int) < 256 := by omega
  obtain ⟨bb, hbb, hbk⟩ : ∃ v : Nat, (q0 : Int) % (s.ks.length : Int) = (v : Int) ∧ v < s.ks.length := ⟨q0 % s.ks.length, by omega, Nat.mod_lt _ (by omega)⟩
  obtain ⟨col, hcl⟩ : ∃ v, (q1 : Int) % 2 = v := ⟨_, rfl⟩
  have hcol : colB col = true := colB_yes (by omega)
  go_wp2_with fail
  go_quiet (fail)
  have HL4 := Lib.hid (HL3.out.later (below_drewN (Below.refl w3.heap.size w3) nq))
  have hs34 : w3.heap.size ≤ (w3.drewN nq).heap.size := Nat.le_refl _
  generalize w3.drewN nq = w4 at *
  have hall4 : Hid (∀ k, All M i k → k < w4.heap.size) := Lib.hid fun k e => HL4.out.bo.rp.mem.ltA e
  clear cU hq0 hq1 HL3 n0 n1 n0b n1b hz hz1 hz2 hs34
  go_wp2_with fail
  refine (new_good bb col w4 HL4.out.bo.is HL4.out.bo.tb hbk hcol).mono ?_
  rintro e w5 ⟨C, p, cap, rfl, hc5, hb5, hC5, hp5⟩
  have HL5 := Lib.hid (HL4.out.later hb5)
  have hLP0 : Lp w1 w5 w5 H M base C i d s s m bb col p cap (seg s.c s.ks bb) [] none 0 [] none 0 :=
    ⟨HL5.out, hc5.self, ⟨hc5.cu.ltC, hc5.cu.lt⟩, ⟨Nat.le_trans HL4.out.bel.size hC5, fun e => by have := hall4.out C e; omega⟩, ⟨by simp [cellsZ], .inl ⟨rfl, rfl⟩⟩, ⟨by simp [cellsZ], .inl ⟨rfl, rfl⟩⟩,
      fun g hg => (by cases hg), fun g hg => (by cases hg), fun k e => by have := hall4.out k e; have := hb5.size; omega, HL5.out.bel.size, ⟨(HT.out.later HB1.out).lim.blk, (HT.out.later HB1.out).siz.blk⟩, Nat.le_refl _⟩
  have HLP := Lib.hid hLP0
  clear hLP0 hc5 hb5 hC5 hp5 HL5 HL4 hall4
  have hal := HSM.out.all
  have hRC := Blk.slots_bd HSM.out.wp.wf.right
  obtain ⟨wd, hwd⟩ : ∃ wd : Nat, s.c.wd = (wd : Int) := ⟨s.c.wd.toNat, by have := hRC.wd0; omega⟩
  have hwd0 := hRC.wd0
  have hwd1 := hRC.wd1
  have hwp0 : (0 : Int) < (wd : Int) := by omega
  have hwpn : ¬ (wd : Int) = 0 := by omega
  have HCN : Hid (((allP s.c s.ks s.ks.length).filter (inBl s bb)).length = (seg s.c s.ks bb).length) := Lib.hid (by rw [seg_filter HSM.out.wp hbk])
  clear hRC
  go_wp2_with fail
  go_loopw [13, 14] (fun cv x wr => ∃ (j : Nat), j ≤ (allP s.c s.ks s.ks.length).length ∧ x = .int .i64 j ∧ cv = .int .i64 (((allP s.c s.ks s.ks.length).take j).filter (inBl s bb)).length ∧
    Lp w1 w5 wr H M base C i d s s m bb col p cap (seg s.c s.ks bb) [] none 0 [] none 0) (fun _ x _ => (allP s.c s.ks s.ks.length).length - (intOf x).toNat)
  case atStart => exact ⟨0, Nat.zero_le _, rfl, rfl, HLP.out⟩
  case round =>
    clear HLP
    obtain ⟨j, hj, rfl, rfl, hr⟩ := hrel
    have HP := Lib.hid hr
    clear hr
    have j0 : (0 : Int) ≤ (j : Int) := Int.natCast_nonneg _
    have hadr := HP.out.lw.bo.rp.adr
    have hlen : i.sl.length = (allP s.c s.ks s.ks.length).length := by rw [← hadr, List.length_map]
    have c8 := HP.out.lw.bo.rp.mem.cS
    have c1 := HP.out.lw.bo.rp.mem.b1
    rw [hlen] at c8
    rw [hwd] at c1
    by_cases hlt : j < (allP s.c s.ks s.ks.length).length
    · have j1 : (j : Int) < ((allP s.c s.ks s.ks.length).length : Int) := by omega
      obtain ⟨x, hx⟩ : ∃ x, i.sl[j]? = some x := ⟨i.sl[j]'(by omega), List.getElem?_eq_getElem _⟩
      obtain ⟨g, hg, hcl2, _⟩ := HP.out.lw.bo.rp.mem.slot hx
      rw [hg] at c8
      have q0' : wr.cell? ⟨g, j * 6, none⟩ = some (.int .i64 x.a) := hcl2 0 (by omega)
      have HX := Lib.hid hx
      clear hcl2 hg hx
      have hxa : x.a = (allP s.c s.ks s.ks.length).getD j 0 := by
        rw [← hadr, List.getD_eq_getElem?_getD, List.getElem?_map, HX.out]
        rfl
      have hbd := HP.out.lw.bo.rp.wf.own_bd (HP.out.lw.bo.rp.own_of (List.mem_of_getElem? HX.out))
      have hw1 := (Rf.words_wrap HP.out.lw.bo.rp.wf).1
      have ha1 : 1 ≤ x.a := hbd.1
      have ha2 : x.a ≤ 1048576 := by omega
      have HTK : Hid ((allP s.c s.ks s.ks.length).take (j + 1) = (allP s.c s.ks s.ks.length).take j ++ [x.a]) := Lib.hid (by
        rw [List.take_add_one, hxa, List.getD_eq_getElem?_getD]
        have : (allP s.c s.ks s.ks.length)[j]? = some ((allP s.c s.ks s.ks.length)[j]'hlt) := List.getElem?_eq_getElem _
        rw [this]; rfl)
      have hflen : (((allP s.c s.ks s.ks.length).take j).filter (inBl s bb)).length ≤ 1000 := Nat.le_trans (List.length_filter_le _ _) (by rw [List.length_take]; omega)
      have HF1 : Hid (inBl s bb x.a = true → (((allP s.c s.ks s.ks.length).take (j + 1)).filter (inBl s bb)).length = (((allP s.c s.ks s.ks.length).take j).filter (inBl s bb)).length + 1) := Lib.hid fun e => by
        rw [HTK.out, List.filter_append, List.length_append]; simp [e]
      have HF2 : Hid (inBl s bb x.a = false → (((allP s.c s.ks s.ks.length).take (j + 1)).filter (inBl s bb)).length = (((allP s.c s.ks s.ks.length).take j).filter (inBl s bb)).length) := Lib.hid fun e => by
        rw [HTK.out, List.filter_append, List.length_append]; simp [e]
      clear hbd hw1 hxa hadr HTK
      generalize hcn : (((allP s.c s.ks s.ks.length).take j).filter (inBl s bb)).length = cnt at *
      have c0 : (0 : Int) ≤ (cnt : Int) := Int.natCast_nonneg _
      clear hcn
      by_cases hin : inBl s bb x.a = true
      · have bq : ((x.a - 1) / (wd : Int) == (bb : Int)) = true := by unfold inBl at hin; rw [hwd] at hin; exact hin
        have HF := Lib.hid (HF1.out hin)
        clear HF1 HF2
        go_wp2_with fail
        go_quiet (fail)
        have HPn := Lib.hid (HP.out.later (below_drewN (Below.refl wr.heap.size wr) nq))
        clear HP
        go_wp2_with fail
        go_roundw
        case rel => exact ⟨j + 1, by omega, by go_num, by rw [HF.out]; go_num, HPn.out⟩
        case measure => simp [intOf]; omega
      · have hin2 : inBl s bb x.a = false := by simpa using hin
        have bq : ((x.a - 1) / (wd : Int) == (bb : Int)) = false := by unfold inBl at hin2; rw [hwd] at hin2; exact hin2
        have HF := Lib.hid (HF2.out hin2)
        clear HF1 HF2
        go_wp2_with fail
        go_quiet (fail)
        have HPn := Lib.hid (HP.out.later (below_drewN (Below.refl wr.heap.size wr) nq))
        clear HP
        go_wp2_with fail
        go_roundw
        case rel => exact ⟨j + 1, by omega, by go_num, by rw [HF.out], HPn.out⟩
        case measure => simp [intOf]; omega
    · obtain rfl : j = (allP s.c s.ks s.ks.length).length := by omega
      rw [List.take_length, HCN.out]
      clear hadr HCN
      have HND0 : Hid ((seg s.c s.ks bb).Nodup) := Lib.hid ((Hp.seg_sorted bb (HSM.out.wp.k4 bb)).imp (fun hab e => by subst e; omega))
      have hl128 := seg_le s bb
      have HSW := Lib.hid (fun (W : World) (d9 : Ids) (st9 : St) (m9 : Nat) (h9 : Lw w1 W H M base d9 i st9 s m9) => h9.swept HSM.out.wp hal bb col hbk)
      rw [swF_filter HSM.out.wp col _ HND0.out] at HSW
      generalize hL : seg s.c s.ks bb = L at *
      clear hL
      have HLF := Lib.hid (left_any wr HP.out.hc.cu)
      have HBL := Lib.hid (block_any wr HP.out.hc.cu)
      go_wp2_with fail
      refine HLF.out.mono ?_
      rintro e w6 ⟨rfl, rfl⟩
      go_wp2_with fail
      refine HBL.out.mono ?_
      rintro e w6 ⟨rfl, rfl⟩
      have hLP1 := HP.out
      have HP1 := Lib.hid hLP1
      have hm7 := HM7.out
      clear HP HLF HBL hLP1 c8 c1 j0 hlen
      go_wp2_with fail
      go_loopw [15, 16, 17] (fun fv bv x wr => ∃ (j : Nat) (d' : Ids) (st : St) (m' : Nat) (p' : Option Addr) (cap' : Nat) (fl : List Int) (po : Option Addr) (co : Nat) (bl : List Int) (pb : Option Addr) (cb : Nat), j ≤ L.length ∧ x = .int .i64 j ∧ fv = .slice po fl.length co ∧ bv = .slice pb bl.length cb ∧
        fl = (L.take j).filter (swB s col) ∧ bl.length ≤ j ∧ m' ≤ m + 161 * j ∧ Vi s st col (L.drop j) bl ∧ Lp w1 w5 wr H M base C i d' s st m' bb col p' cap' (L.drop j) fl po co bl pb cb) (fun _ _ x _ => L.length - (intOf x).toNat)
      case atStart => exact ⟨0, d, s, m, p, cap, [], none, 0, [], none, 0, Nat.zero_le _, rfl, rfl, rfl, rfl, Nat.le_refl _, by omega, Vi.start s col _, HP1.out⟩
      case round =>
        clear HP1
        obtain ⟨j, d', st, m', p', cap', fl, po, co, bl, pb, cb, hj, rfl, rfl, rfl, hfl, hbl, hmm, hvi, hr⟩ := hrel
        have HP := Lib.hid hr
        have HVI := Lib.hid hvi
        have HFL := Lib.hid hfl
        have hfll : fl.length ≤ 128 := by
          rw [hfl]
          exact Nat.le_trans (List.length_filter_le _ _) (by rw [List.length_take]; omega)
        clear hr hvi hfl
        have j0 : (0 : Int) ≤ (j : Int) := Int.natCast_nonneg _
        by_cases hlt : j < L.length
        · have j1 : (j : Int) < (L.length : Int) := by omega
          have HDN := Lib.hid (done_any wr HP.out.hc.cu false (by rw [List.length_drop, beq_eq_false_iff_ne]; omega))
          have HLF : Hid (Calls Tryz.prog 16 #[.pointer (some ⟨C, 0, none⟩)] wr fun e w' => e = .returned (.int .i64 ((L.length : Int) - (j : Int))) ∧ wr = w') := Lib.hid (by
            have := left_any wr HP.out.hc.cu
            rw [List.length_drop, show (((L.length - j : Nat) : Int)) = (L.length : Int) - (j : Int) by omega] at this
            exact this)
          obtain ⟨a, t, hat⟩ : ∃ a t, L.drop j = a :: t := ⟨_, _, List.drop_eq_getElem_cons hlt⟩
          have HDR : Hid (L.drop (j + 1) = t) := Lib.hid (by
            rw [← List.tail_drop, hat]; rfl)
          have HTK : Hid (L.take (j + 1) = L.take j ++ [a]) := Lib.hid (by
            have h1 : L[j]? = some a := by rw [← List.head?_drop, hat]; rfl
            rw [List.take_add_one, h1]; rfl)
          have HND : Hid ((a :: t).Nodup) := Lib.hid (by rw [← hat]; exact HND0.out.sublist (List.drop_sublist _ _))
          rw [hat] at HP HVI
          clear hat
          have hl0 : (0 : Int) < (L.length : Int) := by omega
          have hln : ¬ (L.length : Int) = 0 := by omega
          have q2c := (HP.out.lw.bel.cell (p := ⟨w.heap.size + 1, 2, none⟩) hq9).trans HQ2.out
          have n2 : (0 : Int) ≤ (q2 : Int) := Int.natCast_nonneg _
          have n2b : (q2 : Int) < 256 := by omega
          obtain ⟨qq, hqq⟩ : ∃ v, (q2 : Int) % (L.length : Int) = v := ⟨_, rfl⟩
          go_wp2_with fail
          refine HDN.out.mono ?_
          rintro e w6 ⟨rfl, rfl⟩
          go_wp2_with fail
          refine HLF.out.mono ?_
          rintro e w6 ⟨rfl, rfl⟩
          clear HDN HLF
          by_cases hjq : (j : Int) = qq
          · subst hjq
            have bjq : ((j : Int) == (j : Int)) = true := beq_self_eq_true _
            have HMK := Lib.hid (Rf.hmake_any 1 col wr HP.out.hc.is HP.out.hc.tb (by omega))
            by_cases he : mkE st 1 col = 0
            · rw [if_pos he, he] at HMK
              go_wp2_with fail
              refine HMK.out.mono ?_
              rintro e w7 ⟨rfl, hT⟩
              obtain ⟨d7, h7⟩ := HP.out.heap hT
              have HP7a := Lib.hid h7
              have HV7 := Lib.hid (HVI.out.make HP.out.hc.is he hcol)
              clear hT h7 HP HMK q2c hqq n2 n2b
              have hw57 : w5.heap.size ≤ w7.heap.size := HP7a.out.sz
              generalize hmw : mkW st 1 col = mw at *
              clear hmw
              go_wp2_with (at_builtin; refine Rf.wpList_append_one rfl _ _ rfl w7 w5.heap.size pb cb bl mw rfl rfl HP7a.out.ob rfl (by omega) hw57 ?_; intro p7 c7 w7b ho7 hC7 hR7; have HP7 := Lib.hid (HP7a.out.pushB hC7 ho7 hR7); clear ho7 hC7 hR7 HP7a)
              have HST := Lib.hid (step_any _ HP7.out.hc (by omega))
              refine HST.out.mono ?_
              rintro e w8 ⟨rfl, d8, p8, cap8, h8, hp8⟩
              have HP8 := Lib.hid (HP7.out.step h8 hp8)
              have HV8 := Lib.hid (HV7.out.turn (wp_of HP7.out.hc.is (by omega) (by have := HV7.out.ws; have := HSM.out.wp.sm; omega)) HND.out)
              have hsame := HV7.out.same a (by simp)
              clear h8 hp8 HST HP7
              cases hsb : swB (mkS st 1 col) col a with
              | true =>
                have hv : swV (mkS st 1 col) col a = a := by rw [swV, if_pos hsb]
                have HF : Hid ((L.take (j + 1)).filter (swB s col) = (L.take j).filter (swB s col) ++ [a]) := Lib.hid (by
                  rw [HTK.out, List.filter_append]
                  simp [← hsame, hsb])
                have hw58 : w5.heap.size ≤ w8.heap.size := HP8.out.sz
                rw [hv]
                go_wp2_with (at_builtin; refine Rf.wpList_append_one rfl _ _ rfl w8 w5.heap.size po co fl a rfl rfl HP8.out.ow rfl (by omega) hw58 ?_; intro p9 c9 w9 ho9 hC9 hR9; have HP9 := Lib.hid (HP8.out.pushF hC9 ho9 hR9); clear ho9 hC9 hR9 HP8)
                go_roundw
                case rel => exact ⟨j + 1, d8, _, (m' + 160) + 1, p8, cap8, fl ++ [a], p9, c9, bl ++ [mw], p7, c7, by omega, by go_num, by rw [List.length_append]; rfl, by rw [List.length_append]; rfl, by rw [HF.out, HFL.out], by rw [List.length_append, List.length_singleton]; omega, by omega, by rw [HDR.out]; exact HV8.out, by rw [HDR.out]; exact HP9.out⟩
                case measure => simp [intOf]; omega
              | false =>
                have hv : swV (mkS st 1 col) col a = 0 := by rw [swV, hsb]; rfl
                have HF : Hid ((L.take (j + 1)).filter (swB s col) = (L.take j).filter (swB s col)) := Lib.hid (by
                  rw [HTK.out, List.filter_append]
                  simp [← hsame, hsb])
                rw [hv]
                go_wp2_with fail
                go_roundw
                case rel => exact ⟨j + 1, d8, _, (m' + 160) + 1, p8, cap8, fl, po, co, bl ++ [mw], p7, c7, by omega, by go_num, rfl, by rw [List.length_append]; rfl, by rw [HF.out, HFL.out], by rw [List.length_append, List.length_singleton]; omega, by omega, by rw [HDR.out]; exact HV8.out, by rw [HDR.out]; exact HP8.out⟩
                case measure => simp [intOf]; omega
            · rw [if_neg he] at HMK
              have hen : (mkE st 1 col == 0) = false := by rw [beq_eq_false_iff_ne]; exact he
              go_wp2_with fail
              refine HMK.out.mono ?_
              rintro e w7 ⟨rfl, hT⟩
              obtain ⟨d7, h7⟩ := HP.out.heap hT
              have HP7 := Lib.hid h7
              clear hT h7 HP HMK q2c hqq n2 n2b
              have HST := Lib.hid (step_any _ HP7.out.hc (by omega))
              go_wp2_with fail
              refine HST.out.mono ?_
              rintro e w8 ⟨rfl, d8, p8, cap8, h8, hp8⟩
              have HP8 := Lib.hid (HP7.out.step h8 hp8)
              have HV8 := Lib.hid (HVI.out.turn (wp_of HP7.out.hc.is (by omega) (by have := HVI.out.ws; have := HSM.out.wp.sm; omega)) HND.out)
              have hsame := HVI.out.same a (by simp)
              clear h8 hp8 HST HP7
              cases hsb : swB st col a with
              | true =>
                have hv : swV st col a = a := by rw [swV, if_pos hsb]
                have HF : Hid ((L.take (j + 1)).filter (swB s col) = (L.take j).filter (swB s col) ++ [a]) := Lib.hid (by
                  rw [HTK.out, List.filter_append]
                  simp [← hsame, hsb])
                have hw58 : w5.heap.size ≤ w8.heap.size := HP8.out.sz
                rw [hv]
                go_wp2_with (at_builtin; refine Rf.wpList_append_one rfl _ _ rfl w8 w5.heap.size po co fl a rfl rfl HP8.out.ow rfl (by omega) hw58 ?_; intro p9 c9 w9 ho9 hC9 hR9; have HP9 := Lib.hid (HP8.out.pushF hC9 ho9 hR9); clear ho9 hC9 hR9 HP8)
                go_roundw
                case rel => exact ⟨j + 1, d8, _, (m' + 160) + 1, p8, cap8, fl ++ [a], p9, c9, bl, pb, cb, by omega, by go_num, by rw [List.length_append]; rfl, rfl, by rw [HF.out, HFL.out], by omega, by omega, by rw [HDR.out]; exact HV8.out, by rw [HDR.out]; exact HP9.out⟩
                case measure => simp [intOf]; omega
              | false =>
                have hv : swV st col a = 0 := by rw [swV, hsb]; rfl
                have HF : Hid ((L.take (j + 1)).filter (swB s col) = (L.take j).filter (swB s col)) := Lib.hid (by
                  rw [HTK.out, List.filter_append]
                  simp [← hsame, hsb])
                rw [hv]
                go_wp2_with fail
                go_roundw
                case rel => exact ⟨j + 1, d8, _, (m' + 160) + 1, p8, cap8, fl, po, co, bl, pb, cb, by omega, by go_num, rfl, rfl, by rw [HF.out, HFL.out], by omega, by omega, by rw [HDR.out]; exact HV8.out, by rw [HDR.out]; exact HP8.out⟩
                case measure => simp [intOf]; omega
          · have bjq : ((j : Int) == qq) = false := by rw [beq_eq_false_iff_ne]; exact hjq
            have HST := Lib.hid (step_any _ HP.out.hc (by omega))
            go_wp2_with fail
            refine HST.out.mono ?_
            rintro e w8 ⟨rfl, d8, p8, cap8, h8, hp8⟩
            have HP8 := Lib.hid (HP.out.step h8 hp8)
            have HV8 := Lib.hid (HVI.out.turn (wp_of HP.out.hc.is (by omega) (by have := HVI.out.ws; have := HSM.out.wp.sm; omega)) HND.out)
            have hsame := HVI.out.same a (by simp)
            clear h8 hp8 HST HP
            cases hsb : swB st col a with
            | true =>
              have hv : swV st col a = a := by rw [swV, if_pos hsb]
              have HF : Hid ((L.take (j + 1)).filter (swB s col) = (L.take j).filter (swB s col) ++ [a]) := Lib.hid (by
                rw [HTK.out, List.filter_append]
                simp [← hsame, hsb])
              have hw58 : w5.heap.size ≤ w8.heap.size := HP8.out.sz
              rw [hv]
              go_wp2_with (at_builtin; refine Rf.wpList_append_one rfl _ _ rfl w8 w5.heap.size po co fl a rfl rfl HP8.out.ow rfl (by omega) hw58 ?_; intro p9 c9 w9 ho9 hC9 hR9; have HP9 := Lib.hid (HP8.out.pushF hC9 ho9 hR9); clear ho9 hC9 hR9 HP8)
              go_roundw
              case rel => exact ⟨j + 1, d8, _, m' + 1, p8, cap8, fl ++ [a], p9, c9, bl, pb, cb, by omega, by go_num, by rw [List.length_append]; rfl, rfl, by rw [HF.out, HFL.out], by omega, by omega, by rw [HDR.out]; exact HV8.out, by rw [HDR.out]; exact HP9.out⟩
              case measure => simp [intOf]; omega
            | false =>
              have hv : swV st col a = 0 := by rw [swV, hsb]; rfl
              have HF : Hid ((L.take (j + 1)).filter (swB s col) = (L.take j).filter (swB s col)) := Lib.hid (by
                rw [HTK.out, List.filter_append]
                simp [← hsame, hsb])
              rw [hv]
              go_wp2_with fail
              go_roundw
              case rel => exact ⟨j + 1, d8, _, m' + 1, p8, cap8, fl, po, co, bl, pb, cb, by omega, by go_num, rfl, rfl, by rw [HF.out, HFL.out], by omega, by omega, by rw [HDR.out]; exact HV8.out, by rw [HDR.out]; exact HP8.out⟩
              case measure => simp [intOf]; omega
        · obtain rfl : j = L.length := by omega
          rw [List.drop_length] at HP HVI
          rw [List.take_length] at HFL
          have HSD := Lib.hid (step_done wr HP.out.hc.cu)
          have HDN := Lib.hid (done_any wr HP.out.hc.cu true rfl)
          have HLF := Lib.hid (left_any wr HP.out.hc.cu)
          go_wp2_with fail
          refine HSD.out.mono ?_
          rintro e w6 ⟨rfl, rfl⟩
          go_wp2_with fail
          refine HDN.out.mono ?_
          rintro e w6 ⟨rfl, rfl⟩
          go_wp2_with fail
          refine HLF.out.mono ?_
          rintro e w6 ⟨rfl, rfl⟩
          clear HSD HDN HLF
          go_wp2_with fail
          go_loopw [24] (fun x w9 => ∃ (j : Nat), j ≤ bl.length ∧ x = .int .i64 j ∧ Lp w1 w5 w9 H M base C i d' s st m' bb col p' cap' [] fl po co bl pb cb) (fun x _ => bl.length - (intOf x).toNat)
          case atStart => exact ⟨0, Nat.zero_le _, rfl, HP.out⟩
          case round =>
            clear HP
            obtain ⟨j, hj2, rfl, hr2⟩ := hrel
            have HPb := Lib.hid hr2
            clear hr2
            have j0 : (0 : Int) ≤ (j : Int) := Int.natCast_nonneg _
            by_cases hlt2 : j < bl.length
            · have j1 : (j : Int) < (bl.length : Int) := by omega
              obtain ⟨g, off, rfl, hcell⟩ := (Rd.of_owns HPb.out.ob).at hlt2
              obtain ⟨a, ha⟩ : ∃ a, bl.getD j 0 = a := ⟨_, rfl⟩
              rw [ha] at hcell
              have hmem : a ∈ bl := by
                rw [← ha, List.getD_eq_getElem?_getD, List.getElem?_eq_getElem hlt2]
                exact List.getElem_mem hlt2
              have hio := Hp.isO_any a _ HPb.out.hc.is
              rw [(HVI.out.bo a hmem).1] at hio
              clear ha hmem
              go_wp2_with fail
              refine hio.mono ?_
              rintro e w10 ⟨rfl, q10, rfl⟩
              have HPn := Lib.hid (HPb.out.later (below_drewN (Below.refl _ _) q10))
              clear HPb hcell hio
              go_wp2
              go_roundw
              case rel => exact ⟨j + 1, by omega, by go_num, HPn.out⟩
              case measure => simp [intOf]; omega
            · have j1 : ¬ (j : Int) < (bl.length : Int) := by omega
              rw [← HFL.out] at HSW
              go_wp2_with fail
              refine (HSW.out _ d' st m' HPb.out.lw).mono ?_
              rintro e w10 ⟨i10, p10, c10, rfl, hL10, hC10, ho10, hav10⟩
              have HL10 := Lib.hid hL10
              have HRF := Lib.hid (Rd.of_owns (owns_chg HPb.out.ow hC10 (fun g hg e => by have := HPb.out.iA g e; have := (owns_lt HPb.out.ow hg).1; omega)))
              have HRW := Lib.hid (Rd.of_owns ho10)
              clear hL10 hC10 ho10 hav10 HPb HSW
              go_wp2_with fail
              refine (Row.same_any po p10 co c10 _ w10 HRF.out HRW.out (by omega)).mono ?_
              rintro e w11 ⟨rfl, q11, rfl⟩
              have HL11 := Lib.hid (HL10.out.later (below_drewN (Below.refl w10.heap.size w10) q11))
              clear HL10 HRF HRW
              generalize w10.drewN q11 = w11 at *
              go_wp2_with fail
              refine (Hp.parted_any w11 HL11.out.bo.is HL11.out.bo.tb (by omega) (by rw [HVI.out.c]; exact HSM.out.b4)).mono ?_
              rintro e w12 ⟨rfl, hb12⟩
              have hbel := (HL11.out.later hb12).bel
              go_wp2
              go_ret
              exact ⟨rfl, HB1.out.trans (hbel.mono HB1.out.size)⟩
end Go.Proofs.YtbejddpfnglkbaaGreatDoor.Sw
