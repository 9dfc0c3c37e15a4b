/-
  The law SweepTwice answers true.
-/
import Derived.Test.YtbejddpfnglkbaaGreatDoorSwO
namespace Go.Proofs.YtbejddpfnglkbaaGreatDoor.Sw
open Go.RowKit
open Blk (Cfg TbIs kAt seg seg_length perN allP allP_succ allP_len blk adr little little_any little_right)
open Hp (Ids St Wf Is To Mine bnI bn coE coV frE frS colB holdsF own cls fr puS unS mkE mkS mkA st0 objL NewRow mem_allP)
open Rf (Rp RTo Pu Ri Sl All Bo Lo Keep mkW)
open Go.Proofs.YtbejddpfnglkbaaGreatDoor.Row (Chg Rd Rd0 cell_of_block frozen_of_block other same rowB cellsZ cellsZ_length cellsZ_at cellsZ_snoc owns_lt owns_chg owns_slice owns_base owns_cap owns_block push_row info_parts infoInt one_at)
open Go.Proofs.YtbejddpfnglkbaaGreatDoor.Addr (Tabs)

set_option maxRecDepth 100000 in
set_option maxHeartbeats 8000000 in
theorem twice_walk (c : Cfg) (pa : Option Addr) (ca : Nat) (l : List (Nat × Nat × Bool)) (q : Nat) (w : World) (ht : Tabs w) (hl : ThingsP w.heap.size w pa l) (hla : l.length ≤ maxLen) (hq : q < 256) :
    Calls Tryz.prog 7 #[(.agg #[.int .i64 c.b, .int .i64 c.wd, .int .i64 c.m, .int .i64 c.r, .int .i64 c.ce, .int .i64 c.lg, .int .i64 c.st]), .slice pa l.length ca, .int .u8 q] w fun e w' => e = .returned (.bool true) ∧ Below w.heap.size w w' := by
  have HT := Lib.hid ht
  have HTH := Lib.hid hl
  have HR := Lib.hid (little_right c)
  obtain ⟨nc, hnc, hnc3⟩ := little_ce' c
  obtain ⟨n, hn, hn2⟩ := little_n' c
  have HNC := Lib.hid hnc
  have HN := Lib.hid hn
  obtain ⟨col, hcl⟩ : ∃ v, (q : Int) % 2 = v := ⟨_, rfl⟩
  have hq0 : (0 : Int) ≤ (q : Int) := Int.natCast_nonneg _
  have hc01 : col = 0 ∨ col = 1 := by
    have := Int.emod_nonneg (q : Int) (show (2 : Int) ≠ 0 by decide)
    have := Int.emod_lt_of_pos (q : Int) (show (0 : Int) < 2 by decide)
    omega
  have hcol : colB col = true := colB_yes (by omega)
  have hcol2 : colB (1 - col) = true := colB_yes (by omega)
  have hne : col ≠ 1 - col := by omega
  have hcw : IntKind.i64.wrap (1 - col) = 1 - col := by rcases hc01 with e | e <;> subst e <;> rfl
  clear ht hl hnc hn
  go_enter Tryz.func7, Tryz.ntmps7
  go_wp2_with fail
  refine (little_any c _).mono ?_
  rintro e w1 ⟨rfl, hb1⟩
  have HB1 : Hid (Below w.heap.size w w1) := Lib.hid (((Below.refl _ w).alloc (Nat.le_refl _) _).trans (hb1.mono (by simp)))
  clear hb1
  go_wp2_with fail
  refine (made_any w.heap.size (little c) n nc pa ca l w1 (HT.out.later HB1.out) HR.out HN.out HNC.out (by omega) HB1.out.size (HTH.out.below HB1.out) hla).mono ?_
  rintro e w2 ⟨H, M, base, d, i, m, rfl, hmad⟩
  have HSM := Lib.hid hmad.sm
  have HM7 := Lib.hid hmad.hm
  have HL2 := Lib.hid (hmad.lw HB1.out)
  clear hmad
  generalize madeS (st0 (little c) n nc) (l.take 40) = s at *
  go_wp2_with fail
  refine (awake_any w2 HL2.out.bo.tb).mono ?_
  rintro e w3 ⟨rfl, hb3⟩
  have HL3 := Lib.hid (HL2.out.later hb3)
  have hal := HSM.out.all
  clear hb3 HL2
  go_wp2_with fail
  refine (all_good col w3 HL3.out.bo.is HL3.out.bo.tb hcol (by have := HM7.out; omega) hal).mono ?_
  rintro e w5 ⟨d5, po, co, rfl, h1, _, h3, h4, ho5, hav5⟩
  have HL5 := Lib.hid (HL3.out.heap h1 h3 h4)
  have HR5 := Lib.hid (Rd.of_owns ho5)
  have HV5 : Hid (∀ g, rowB po g → ¬ Mine H d5 g ∧ g < w5.heap.size) := Lib.hid fun g hg => ⟨hav5 g hg, (owns_lt ho5 hg).2⟩
  have hfl := swF_len s col (allP s.c s.ks s.ks.length)
  have hb4 := HSM.out.b4
  rw [← swS_c s col (allP s.c s.ks s.ks.length)] at hb4
  have HWP := Lib.hid (HSM.out.wp.swS col (allP s.c s.ks s.ks.length))
  have HN2 := Lib.hid (fun x (_ : x ∈ allP s.c s.ks s.ks.length) => again_none HSM.out.wp col x)
  have HFG := Lib.hid (freed_gone HSM.out.wp col)
  have HOA := Lib.hid (other_all HSM.out.wp col (1 - col) hne)
  have HNL := Lib.hid (none_left HSM.out.wp col (1 - col) hne)
  have HSC := Lib.hid (swS_c s col (allP s.c s.ks s.ks.length))
  have HSK := Lib.hid (swS_ks s col (allP s.c s.ks s.ks.length))
  have hol : (objL (swS s col (allP s.c s.ks s.ks.length))).length ≤ 1000 := by
    rw [objL_eq, swS_c, swS_ks]
    exact Nat.le_trans (List.length_filter_le _ _) hal
  clear h1 h3 h4 ho5 hav5 HL3
  have hmm := HM7.out
  generalize swS s col (allP s.c s.ks s.ks.length) = S at *
  generalize swF s col (allP s.c s.ks s.ks.length) = F at *
  have HS2 : Hid (swF S col (allP S.c S.ks S.ks.length) = [] ∧ swS S col (allP S.c S.ks S.ks.length) = S) := Lib.hid (by
    rw [HSC.out, HSK.out]; exact sw_none col _ HN2.out)
  have hal2 : (allP S.c S.ks S.ks.length).length ≤ 1000 := by rw [HSC.out, HSK.out]; exact hal
  go_wp2_with fail
  refine (Hp.objects_any w5 HL5.out.bo.is HL5.out.bo.tb).mono ?_
  rintro e w6 ⟨pl, cl, rfl, ho6, hb6⟩
  have HL6 := Lib.hid (HL5.out.later hb6)
  have HRO6 := Lib.hid (HR5.out.later hb6)
  have HRL6 := Lib.hid (Rd.of_owns ho6)
  have HX6 : Hid (∀ g, rowB po g ∨ rowB pl g → ¬ Mine H d5 g ∧ g < w6.heap.size) := Lib.hid fun g hg => by
    have hs6 := hb6.size
    rcases hg with hg | hg
    · have := HV5.out g hg; exact ⟨this.1, by omega⟩
    · have h1 := (owns_lt ho6 hg).1
      exact ⟨fun e => by have := HL5.out.bo.is.lt e; omega, (owns_lt ho6 hg).2⟩
  clear ho6 hb6 HL5 HR5 HV5
  have hga := all_good col w6 HL6.out.bo.is HL6.out.bo.tb hcol (by omega) hal2
  rw [HS2.out.1, HS2.out.2] at hga
  go_wp2_with fail
  refine hga.mono ?_
  rintro e w7 ⟨d7, p7, c7, rfl, h1, _, h3, h4, ho7, hav7⟩
  have HL7 := Lib.hid (HL6.out.heap h1 h3 h4)
  have HRO7 := Lib.hid (HRO6.out.chg h3 (fun g hg => (HX6.out g (.inl hg)).1))
  have HRL7 := Lib.hid (HRL6.out.chg h3 (fun g hg => (HX6.out g (.inr hg)).1))
  have HX7 : Hid (∀ g, rowB po g ∨ rowB pl g → ¬ Mine H d7 g) := Lib.hid fun g hg e => (h4 g e).elim (HX6.out g hg).1 (fun x => by have := (HX6.out g hg).2; omega)
  clear h1 h3 h4 ho7 hav7 HL6 HRO6 HRL6 HX6 hga
  go_wp2_with fail
  refine (Hp.objects_any w7 HL7.out.bo.is HL7.out.bo.tb).mono ?_
  rintro e w8 ⟨p8, c8, rfl, ho8, hb8⟩
  have HL8 := Lib.hid (HL7.out.later hb8)
  have HRO8 := Lib.hid (HRO7.out.later hb8)
  have HRL8 := Lib.hid (HRL7.out.later hb8)
  have HR8 := Lib.hid (Rd.of_owns ho8)
  clear ho8 hb8 HL7 HRO7 HRL7
  go_wp2_with fail
  refine (Row.same_any p8 pl c8 cl _ w8 HR8.out HRL8.out (by omega)).mono ?_
  rintro e w9 ⟨rfl, q9, rfl⟩
  have hb9 := below_drewN (Below.refl w8.heap.size w8) q9
  have HL9 := Lib.hid (HL8.out.later hb9)
  have HRO9 := Lib.hid (HRO8.out.later hb9)
  have HRL9 := Lib.hid (HRL8.out.later hb9)
  clear hb9 HL8 HRO8 HRL8 HR8
  generalize w8.drewN q9 = w9 at *
  go_wp2_with fail
  go_loopw [15] (fun x wr => ∃ (j : Nat), j ≤ F.length ∧ x = .int .i64 j ∧ w9 = wr) (fun x _ => F.length - (intOf x).toNat)
  case atStart => exact ⟨0, Nat.zero_le _, rfl, rfl⟩
  case round =>
    obtain ⟨j, hj, rfl, rfl⟩ := hrel
    have j0 : (0 : Int) ≤ (j : Int) := Int.natCast_nonneg _
    by_cases hlt : j < F.length
    · have j1 : (j : Int) < (F.length : Int) := by omega
      obtain ⟨g, off, rfl, hcell⟩ := HRO9.out.at hlt
      obtain ⟨a, ha⟩ : ∃ a, F.getD j 0 = a := ⟨_, rfl⟩
      rw [ha] at hcell
      have hmem : a ∈ F := by
        rw [← ha, List.getD_eq_getElem?_getD, List.getElem?_eq_getElem hlt]
        exact List.getElem_mem hlt
      have hin := in_any pl cl (objL S) a w9 HRL9.out.rd0 (by omega)
      rw [decide_eq_false (HFG.out a hmem)] at hin
      clear ha hmem
      go_wp2_with fail
      refine hin.mono ?_
      rintro e w10 ⟨rfl, rfl⟩
      go_wp2
      go_roundw
      case rel => exact ⟨j + 1, by omega, by go_num, trivial⟩
      case measure => simp [intOf]; omega
    · have j1 : ¬ (j : Int) < (F.length : Int) := by omega
      have hgb := all_good (1 - col) w9 HL9.out.bo.is HL9.out.bo.tb hcol2 (by omega) hal2
      rw [HSC.out, HSK.out, HOA.out] at hgb
      have HB3 : Hid ((swS S (1 - col) (allP s.c s.ks s.ks.length)).c.b ≤ 4) := Lib.hid (by rw [swS_c]; exact hb4)
      go_wp2_with fail
      refine hgb.mono ?_
      rintro e w10 ⟨d10, p10, c10, rfl, h1, _, h3, h4, ho, hav⟩
      have HL10 := Lib.hid (HL9.out.heap h1 h3 h4)
      have HR10 := Lib.hid (Rd.of_owns ho)
      have HRL10 := Lib.hid (HRL9.out.chg h3 (fun g hg => HX7.out g (.inr hg)))
      clear h1 h3 h4 ho hav hgb HL9 HRL9 HRO9
      generalize swS S (1 - col) (allP s.c s.ks s.ks.length) = S3 at *
      go_wp2_with fail
      refine (Row.same_any p10 pl c10 cl _ w10 HR10.out HRL10.out (by omega)).mono ?_
      rintro e w11 ⟨rfl, q11, rfl⟩
      have HL11 := Lib.hid (HL10.out.later (below_drewN (Below.refl w10.heap.size w10) q11))
      have hob := Hp.objects_any _ HL11.out.bo.is HL11.out.bo.tb
      rw [HNL.out] at hob
      clear HL10 HR10 HRL10
      generalize w10.drewN q11 = w11 at *
      go_wp2_with fail
      refine hob.mono ?_
      rintro e w12 ⟨p12, c12, rfl, ho12, hb12⟩
      have HL12 := Lib.hid (HL11.out.later hb12)
      clear ho12 hb12 HL11 hob
      go_wp2_with fail
      refine (Hp.parted_any w12 HL12.out.bo.is HL12.out.bo.tb (by omega) HB3.out).mono ?_
      rintro e w13 ⟨rfl, hb13⟩
      have hbl := (HL12.out.later hb13).bel
      go_wp2
      go_ret
      exact ⟨rfl, hbl⟩
end Go.Proofs.YtbejddpfnglkbaaGreatDoor.Sw
