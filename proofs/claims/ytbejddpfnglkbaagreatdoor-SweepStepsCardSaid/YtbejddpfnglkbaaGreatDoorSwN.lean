/-
  The law SweepAll answers true.
-/
import Derived.Test.YtbejddpfnglkbaaGreatDoorSwM
namespace Go.Proofs.YtbejddpfnglkbaaGreatDoor.Sw
open Go.RowKit
open Blk (Cfg TbIs kAt seg seg_length perN allP allP_succ allP_len blk adr little little_any little_right)
open Hp (Ids St Wf Is To Mine bnI bn coE coV frE frS colB holdsF own cls fr puS unS mkE mkS mkA st0 objL NewRow)
open Rf (Rp RTo Pu Ri Sl All Bo Lo Keep mkW)
open Go.Proofs.YtbejddpfnglkbaaGreatDoor.Row (Chg Rd Rd0 cell_of_block frozen_of_block other same rowB cellsZ cellsZ_length cellsZ_at cellsZ_snoc owns_lt owns_chg owns_slice owns_base owns_cap owns_block push_row info_parts infoInt one_at)
open Go.Proofs.YtbejddpfnglkbaaGreatDoor.Addr (Tabs)

section
variable {w W0 wr w' : World} {H M base m : Nat} {d : Ids} {i0 i i' : Ri} {s r r' : St} {wl : List Int} {pw : Option Addr} {cw : Nat}
theorem Lw.blocks {S : Nat → Prop} (h : Lw w wr H M base d i s r m) (hc : Chg S wr w') (hS : ∀ g, S g → ¬ Mine H d g ∧ ¬ All M i g ∧ w.heap.size ≤ g) (hl : 1 < w.heap.size ∧ 0 < w.heap.size) : Lw w w' H M base d i s r m := by
  have hs := h.bel.size
  have hb : Below (max 1 0 + 1) wr w' := hc.below (fun k hk => by have := (hS k hk).2.2; omega) (by omega)
  exact ⟨⟨h.bo.is.chg hc (fun k e e2 => (hS k e2).1 e), h.bo.rp.chg hc (fun k e e2 => (hS k e2).2.1 e), h.bo.ap, h.bo.tb.below hb (by omega) (by omega), h.bo.hi, Chg.refl _ _, fun _ e => .inl e, fun _ e => .inl e⟩,
    h.bel.trans (hc.below (fun k e => (hS k e).2.2) hs), h.g1, h.g2⟩
theorem allP_mono (c : Cfg) (ks : List Nat) {a b : Nat} (h : a ≤ b) : (allP c ks a).length ≤ (allP c ks b).length := by
  induction h with
  | refl => exact Nat.le_refl _
  | step _ ih => rw [allP_succ, List.length_append]; omega
/-- While the document's blocks are swept: since W0 the document's heap, and the row of what was freed. -/
structure Wt (w W0 wr : World) (H M base : Nat) (d : Ids) (i0 i : Ri) (s r : St) (m : Nat) (wl : List Int) (pw : Option Addr) (cw : Nat) : Prop where
  lw : Lw w wr H M base d i s r m
  inI : ∀ k, All M i k → All M i0 k ∨ W0.heap.size ≤ k
  chg : Chg (All M i0) W0 wr
  ow : wr.ownsRow W0.heap.size 3 1 (.slice pw wl.length cw) wl.length (cellsZ wl)
  aw : ∀ g, rowB pw g → ¬ All M i g
  hd : ∀ k, Mine H d k → k < W0.heap.size
  hw : w.heap.size ≤ W0.heap.size
theorem Wt.swept (h : Wt w W0 wr H M base d i0 i s r m wl pw cw) (g1 : Rp w' M base i' r') (g2 : Chg (All M i) wr w') (g3 : ∀ j, All M i' j → All M i j ∨ wr.heap.size ≤ j) : Wt w W0 w' H M base d i0 i' s r' m wl pw cw :=
  ⟨h.lw.ref g1 g2 g3, fun k e => (g3 k e).elim (h.inI k) (fun x => .inr (by have := h.chg.size; omega)), h.chg.trans g2 (fun q e => h.inI q e), owns_chg h.ow g2 (fun g hg e => h.aw g hg e), fun g hg e => (g3 g e).elim (h.aw g hg) (fun x => by have := (owns_lt h.ow hg).2; omega), h.hd, h.hw⟩
theorem Wt.push {wl' : List Int} {pw' : Option Addr} {cw' : Nat} (h : Wt w W0 wr H M base d i0 i s r m wl pw cw) (hc : Chg (rowB pw) wr w') (ho : w'.ownsRow W0.heap.size 3 1 (.slice pw' wl'.length cw') wl'.length (cellsZ wl')) (hR : ∀ g, rowB pw' g → rowB pw g ∨ wr.heap.size ≤ g)
    (hl : 1 < w.heap.size ∧ 0 < w.heap.size) : Wt w W0 w' H M base d i0 i s r m wl' pw' cw' :=
  ⟨h.lw.blocks hc (fun g hg => ⟨fun e => by have := h.hd g e; have := (owns_lt h.ow hg).1; omega, h.aw g hg, by have := (owns_lt h.ow hg).1; have := h.hw; omega⟩) hl, h.inI, h.chg.trans hc (fun q e => .inr (owns_lt h.ow e).1), ho, fun g hg => (hR g hg).elim (h.aw g) (fun x e => by have := h.lw.bo.rp.mem.ltA e; omega), h.hd, h.hw⟩
end

set_option maxRecDepth 100000 in
set_option maxHeartbeats 8000000 in
theorem all_walk (c : Cfg) (pa : Option Addr) (ca : Nat) (l : List (Nat × Nat × Bool)) (col : Int) (w : World) (ht : Tabs w) (hl : ThingsP w.heap.size w pa l) (hla : l.length ≤ maxLen) :
    Calls Tryz.prog 5 #[(.agg #[.int .i64 c.b, .int .i64 c.wd, .int .i64 c.m, .int .i64 c.r, .int .i64 c.ce, .int .i64 c.lg, .int .i64 c.st]), .slice pa l.length ca, .int .i64 col] w fun e w' => e = .returned (.bool true) ∧ Below w.heap.size w w' := by
  have HT := Lib.hid ht
  have HTH := Lib.hid hl
  have HR := Lib.hid (little_right c)
  obtain ⟨nc, hnc, hnc3⟩ := little_ce' c
  obtain ⟨n, hn, hn2⟩ := little_n' c
  have HNC := Lib.hid hnc
  have HN := Lib.hid hn
  clear ht hl hnc hn
  go_enter Tryz.func5, Tryz.ntmps5
  go_wp2_with fail
  refine (little_any c _).mono ?_
  rintro e w1 ⟨rfl, hb1⟩
  have HB1 : Hid (Below w.heap.size w w1) := Lib.hid (((Below.refl _ w).alloc (Nat.le_refl _) _).trans (hb1.mono (by simp)))
  clear hb1
  go_wp2_with fail
  refine (made_any w.heap.size (little c) n nc pa ca l w1 (HT.out.later HB1.out) HR.out HN.out HNC.out (by omega) HB1.out.size (HTH.out.below HB1.out) hla).mono ?_
  rintro e w2 ⟨H, M, base, d, i, m, rfl, hmad⟩
  have HSM := Lib.hid hmad.sm
  have HM7 := Lib.hid hmad.hm
  have HL2 := Lib.hid (hmad.lw HB1.out)
  clear hmad
  generalize madeS (st0 (little c) n nc) (l.take 40) = s at *
  go_wp2_with fail
  refine (awake_any w2 HL2.out.bo.tb).mono ?_
  rintro e w3 ⟨rfl, hb3⟩
  have HL3 := Lib.hid (HL2.out.later hb3)
  clear hb3 HL2
  by_cases hbad : col < 0 ∨ 1 < col
  · have hcol := colB_no hbad
    go_wp2_with fail
    refine (all_bad col w3 hcol).mono ?_
    rintro e w4 ⟨rfl, rfl⟩
    by_cases hc0 : col < 0
    · have dc0 : decide (col < 0) = true := decide_eq_true hc0
      go_wp2_with fail
      refine (HL3.out.alike (by have := HM7.out; omega) HSM.out.b4).mono ?_
      rintro e w6 ⟨rfl, d6, m6, hL6⟩
      have HL6 := Lib.hid hL6
      clear hL6
      go_wp2
      go_ret
      exact ⟨rfl, HL6.out.bel⟩
    · have dc0 : decide (col < 0) = false := decide_eq_false hc0
      have dc1 : decide (1 < col) = true := decide_eq_true (by omega)
      go_wp2_with fail
      refine (HL3.out.alike (by have := HM7.out; omega) HSM.out.b4).mono ?_
      rintro e w6 ⟨rfl, d6, m6, hL6⟩
      have HL6 := Lib.hid hL6
      clear hL6
      go_wp2
      go_ret
      exact ⟨rfl, HL6.out.bel⟩
  have hcol := colB_yes hbad
  have dc0 : decide (col < 0) = false := decide_eq_false (by omega)
  have dc1 : decide (1 < col) = false := decide_eq_false (by omega)
  go_wp2_with fail
  refine (all_good col w3 HL3.out.bo.is HL3.out.bo.tb hcol (by have := HM7.out; omega) HSM.out.all).mono ?_
  rintro e w5 ⟨d5, po, co, rfl, h1, _, h3, h4, ho5, hav5⟩
  have HL5 := Lib.hid (HL3.out.heap h1 h3 h4)
  have HO5 := Lib.hid ho5
  have hlt5 : Hid (∀ g, rowB po g → ¬ All M i g) := Lib.hid fun g hg e => by
    have h1 := (owns_lt ho5 hg).1
    have h2 := HL3.out.bo.rp.mem.ltA e
    omega
  have HPL : Hid (∀ g, rowB po g → g < w5.heap.size) := Lib.hid fun g hg => (owns_lt ho5 hg).2
  have hal := HSM.out.all
  have hfl := swF_len s col (allP s.c s.ks s.ks.length)
  have hlim : Hid (1 < w.heap.size ∧ 0 < w.heap.size) := Lib.hid ⟨HT.out.lim.blk, HT.out.siz.blk⟩
  clear h1 h3 h4 ho5 hav5 HL3
  have hWt0 : Wt w w5 w5 H M base d5 i i (swS s col (allP s.c s.ks s.ks.length)) s (m + (allP s.c s.ks s.ks.length).length) [] none 0 :=
    ⟨HL5.out, fun _ e => .inl e, Chg.refl _ _, ⟨by simp [cellsZ], .inl ⟨rfl, rfl⟩⟩, fun g hg => (by cases hg), fun k e => HL5.out.bo.is.lt e, HL5.out.bel.size⟩
  have HW0 := Lib.hid hWt0
  clear hWt0 HL5
  go_wp2_with fail
  go_loopw [11, 12] (fun ov x wr => ∃ (j : Nat) (i' : Ri) (pw : Option Addr) (cw : Nat), j ≤ s.ks.length ∧ x = .int .i64 j ∧ ov = .slice pw (swF s col (allP s.c s.ks j)).length cw ∧
    Wt w w5 wr H M base d5 i i' (swS s col (allP s.c s.ks s.ks.length)) (swS s col (allP s.c s.ks j)) (m + (allP s.c s.ks s.ks.length).length) (swF s col (allP s.c s.ks j)) pw cw) (fun _ x _ => s.ks.length - (intOf x).toNat)
  case atStart => exact ⟨0, i, none, 0, Nat.zero_le _, rfl, by simp [swF, allP], by simpa [swF, swS, allP] using HW0.out⟩
  case round =>
    clear HW0
    obtain ⟨j, i', pw, cw, hj, rfl, rfl, hr⟩ := hrel
    have HW := Lib.hid hr
    clear hr
    have j0 : (0 : Int) ≤ (j : Int) := Int.natCast_nonneg _
    have cU := HW.out.lw.bo.rp.mem.cU
    rw [swS_ks] at cU
    have hks : s.ks.length ≤ 4 := by have := HSM.out.wp.wf.full; have := HSM.out.b4; omega
    by_cases hlt : j < s.ks.length
    · have j1 : (j : Int) < (s.ks.length : Int) := by omega
      have hsw := swept_gen j col wr HW.out.lw.bo.rp (HSM.out.wp.swS col (allP s.c s.ks j)) (by rw [swS_c, swS_ks]; exact hal)
      rw [seg_filter (HSM.out.wp.swS col (allP s.c s.ks j)) (by rw [swS_ks]; exact hlt), swS_c, swS_ks] at hsw
      have hfl1 := swF_len s col (allP s.c s.ks j)
      have hfl2 := swF_len (swS s col (allP s.c s.ks j)) col (seg s.c s.ks j)
      have hal1 : (allP s.c s.ks j).length ≤ 1000 := Nat.le_trans (allP_mono s.c s.ks (by omega)) hal
      have hsl := seg_le s j
      have HA : Hid (swS s col (allP s.c s.ks (j + 1)) = swS (swS s col (allP s.c s.ks j)) col (seg s.c s.ks j) ∧ swF s col (allP s.c s.ks (j + 1)) = swF s col (allP s.c s.ks j) ++ swF (swS s col (allP s.c s.ks j)) col (seg s.c s.ks j)) := Lib.hid (by
        rw [allP_succ, swF_append, swS_append]; exact ⟨rfl, rfl⟩)
      generalize hF : swF s col (allP s.c s.ks j) = F at *
      clear hF
      go_wp2_with fail
      refine hsw.mono ?_
      rintro e w6 ⟨i6, p6, c6, rfl, hr6⟩
      have HW6 := Lib.hid (HW.out.swept hr6.rp hr6.chg hr6.inI)
      have HR6 := Lib.hid (Rd.of_owns hr6.own).rd0
      clear hr6 HW cU hsw
      have hws : w5.heap.size ≤ w6.heap.size := HW6.out.chg.size
      go_wp2_with (at_builtin; refine wpList_append_row2 rfl (.tmp 66) (.tmp 70) rfl w5.heap.size pw cw F rfl HW6.out.ow p6 c6 (swF (swS s col (allP s.c s.ks j)) col (seg s.c s.ks j)) rfl HR6.out (by omega) hws ?_)
      intro p7 c7 w7 ho7 hC7 hR7
      rw [← List.length_append] at ho7
      have HW7 := Lib.hid (HW6.out.push hC7 ho7 hR7 hlim.out)
      clear ho7 hC7 hR7 HW6 HR6
      go_wp2
      go_roundw
      case rel =>
        refine ⟨j + 1, i6, p7, c7, by omega, by go_num, ?_, ?_⟩
        · rw [HA.out.2, List.length_append]
        · rw [HA.out.1, HA.out.2]
          exact HW7.out
      case measure => simp [intOf]; omega
    · obtain rfl : j = s.ks.length := by omega
      have j1 : ¬ (s.ks.length : Int) < (s.ks.length : Int) := by omega
      have HRW := Lib.hid (Rd.of_owns HW.out.ow)
      have HRO := Lib.hid ((Rd.of_owns HO5.out).chg HW.out.chg hlt5.out)
      generalize hF : swF s col (allP s.c s.ks s.ks.length) = F at *
      have HLW := Lib.hid HW.out.lw
      have HWP := Lib.hid (HSM.out.wp.swS col (allP s.c s.ks s.ks.length))
      have HCO := Lib.hid (all_left HSM.out.wp col)
      have hb4 := HSM.out.b4
      rw [← swS_c s col (allP s.c s.ks s.ks.length)] at hb4
      have hol : (objL (swS s col (allP s.c s.ks s.ks.length))).length ≤ 1000 := by
        rw [objL_eq, swS_c, swS_ks]
        exact Nat.le_trans (List.length_filter_le _ _) hal
      generalize swS s col (allP s.c s.ks s.ks.length) = S at *
      clear hF HW
      go_wp2_with fail
      refine (Row.same_any po pw co cw _ wr HRO.out HRW.out (by omega)).mono ?_
      rintro e w7 ⟨rfl, q7, rfl⟩
      have HL7 := Lib.hid (HLW.out.later (below_drewN (Below.refl _ wr) q7))
      clear HLW HRO HRW
      go_wp2_with fail
      refine (HL7.out.alike (by have := HM7.out; omega) hb4).mono ?_
      rintro e w8 ⟨rfl, d8, m8, hL8⟩
      have HL8 := Lib.hid hL8
      clear hL8 HL7
      go_wp2_with fail
      refine (Hp.objects_any w8 HL8.out.bo.is HL8.out.bo.tb).mono ?_
      rintro e w9 ⟨pl, cl, rfl, ho9, hb9⟩
      have HL9 := Lib.hid (HL8.out.later hb9)
      have HR9 := Lib.hid (Rd.of_owns ho9)
      clear ho9 hb9 HL8
      go_wp2_with fail
      go_loopw [14] (fun x wr => ∃ (j : Nat), j ≤ (objL S).length ∧ x = .int .i64 j ∧ Lw w wr H M base d8 i' S S m8 ∧ Rd wr pl (objL S)) (fun x _ => (objL S).length - (intOf x).toNat)
      case atStart => exact ⟨0, Nat.zero_le _, rfl, HL9.out, HR9.out⟩
      case round =>
        clear HL9 HR9
        obtain ⟨j, hj, rfl, hr1, hr2⟩ := hrel
        have HL := Lib.hid hr1
        have HR := Lib.hid hr2
        clear hr1 hr2
        have j0 : (0 : Int) ≤ (j : Int) := Int.natCast_nonneg _
        by_cases hlt : j < (objL S).length
        · have j1 : (j : Int) < ((objL S).length : Int) := by omega
          obtain ⟨g, off, rfl, hcell⟩ := HR.out.at hlt
          obtain ⟨a, ha⟩ : ∃ a, (objL S).getD j 0 = a := ⟨_, rfl⟩
          rw [ha] at hcell
          have hmem : a ∈ objL S := by
            rw [← ha, List.getD_eq_getElem?_getD, List.getElem?_eq_getElem hlt]
            exact List.getElem_mem hlt
          have hbn := (mem_obj HWP.out).1 hmem
          have hco := HCO.out a hbn
          have hce : coE S a = 0 := by unfold coE; rw [hbn]; rfl
          clear ha hmem
          have hcol2 := Hp.color_any' a _ HL.out.bo.is
          rw [hco, hce] at hcol2
          have hob : (objL S).length ≤ 1000 := hol
          go_wp2_with fail
          refine hcol2.mono ?_
          rintro e w10 ⟨rfl, hb10⟩
          have HLn := Lib.hid (HL.out.later hb10)
          have HRn := Lib.hid (HR.out.later hb10)
          clear hb10 HL HR hcell hcol2
          go_wp2
          go_roundw
          case rel => exact ⟨j + 1, by omega, by go_num, HLn.out, HRn.out⟩
          case measure => simp [intOf]; omega
        · have j1 : ¬ (j : Int) < ((objL S).length : Int) := by omega
          go_wp2
          go_ret
          exact ⟨rfl, HL.out.bel⟩
end Go.Proofs.YtbejddpfnglkbaaGreatDoor.Sw
