/-
  All blocks, swept.
-/
import Derived.Test.YtbejddpfnglkbaaGreatDoorSwE
namespace Go.Proofs.YtbejddpfnglkbaaGreatDoor.Sw
open Go.RowKit
open Blk (Cfg TbIs kAt seg seg_length perN allP allP_succ allP_len)
open Hp (Ids St Wf Is To Mine bnI bn coE coV frE frS colB holdsF)
open Go.Proofs.YtbejddpfnglkbaaGreatDoor.Row (Chg Rd Rd0 cell_of_block frozen_of_block other same rowB cellsZ cellsZ_length cellsZ_at cellsZ_snoc owns_lt owns_chg owns_slice owns_base owns_cap owns_block push_row info_parts infoInt one_at)
open Go.Proofs.YtbejddpfnglkbaaGreatDoor.Addr (Tabs)

/-- While blocks are swept: the heap, the copy of its table, the row of what was freed. -/
structure Al (w wr : World) (H : Nat) (d0 d : Ids) (s : St) (m B : Nat) (pt : Option Addr) (ct : Nat) (fo : List Int) (po : Option Addr) (co : Nat) : Prop where
  is : Is wr H d s m
  tb : Tabs wr
  chg : Chg (Mine H d0) w wr
  inD : ∀ k, Mine H d k → Mine H d0 k ∨ w.heap.size ≤ k
  tab : TbIs wr B w.heap.size s.c s.ks pt ct
  own : wr.ownsRow w.heap.size 3 1 (.slice po fo.length co) fo.length (cellsZ fo)
  avT : ∀ g, g = B ∨ rowB pt g → ¬ Mine H d g
  avO : ∀ g, rowB po g → ¬ Mine H d g ∧ g ≠ B ∧ ¬ rowB pt g
section
variable {w wr w' : World} {H m m' B : Nat} {d0 d d' : Ids} {s s' : St} {pt : Option Addr} {ct : Nat} {fo : List Int} {po : Option Addr} {co : Nat}
theorem Al.later (h : Al w wr H d0 d s m B pt ct fo po co) (hb : Below wr.heap.size wr w') : Al w w' H d0 d s m B pt ct fo po co :=
  ⟨h.is.later hb, h.tb.later hb, h.chg.trans (Chg.of_below (S := Mine H d0) hb) (fun _ e => .inl e), h.inD, h.tab.later hb, owns_block h.own (fun g hg => hb.block g (owns_lt h.own hg).2), h.avT, h.avO⟩
/-- A cursor's block, and the heap, turned. -/
theorem Al.sweep {w3 : World} {C : Nat} {b col : Int} {p : Option Addr} {cap : Nat} {L : List Int} (h : Al w wr H d0 d s m B pt ct fo po co) (hb : Below wr.heap.size wr w3) (hC : wr.heap.size ≤ C) (h2 : Hc w3 H d C w' d' s' m' b col p cap L) (hc : s'.c = s.c) (hk : s'.ks = s.ks) :
    Al w w' H d0 d' s' m' B pt ct fo po co := by
  have h3 := h.later hb
  have hs1 := h.chg.size
  have hs2 := hb.size
  have av : ∀ g, g < wr.heap.size → ¬ Mine H d g → ¬ (Mine H d g ∨ g = C) := fun g hg hn e => e.elim hn (fun x => by omega)
  have av2 : ∀ g, g < wr.heap.size → ¬ Mine H d g → ¬ Mine H d' g := fun g hg hn e => (h2.inD g e).elim hn (fun x => by omega)
  refine ⟨h2.is, h2.tb, h3.chg.trans h2.chg (fun q (e : Mine H d q ∨ q = C) => e.elim (h.inD q) (fun e => .inr (by omega))), fun k e => (h2.inD k e).elim (h.inD k) (fun x => .inr (by omega)), ?_, owns_chg h3.own h2.chg (fun g hg => av g (owns_lt h.own hg).2 (h.avO g hg).1), fun g hg => ?_, fun g hg => ⟨av2 g (owns_lt h.own hg).2 (h.avO g hg).1, (h.avO g hg).2⟩⟩
  · rw [hc, hk]
    exact h3.tab.kept (h2.chg.block B h3.tab.ltB (av B h.tab.ltB (h.avT B (.inl rfl)))) (fun g hg => h2.chg.block g (h3.tab.ltG hg).2 (av g (h.tab.ltG hg).2 (h.avT g (.inr hg))))
  · rcases hg with rfl | hg
    · exact av2 _ h.tab.ltB (h.avT _ (.inl rfl))
    · exact av2 g (h.tab.ltG hg).2 (h.avT g (.inr hg))
theorem Al.push {po' : Option Addr} {co' : Nat} {fo' : List Int} (h : Al w wr H d0 d s m B pt ct fo po co) (hc : Chg (rowB po) wr w') (ho : w'.ownsRow w.heap.size 3 1 (.slice po' fo'.length co') fo'.length (cellsZ fo')) (hR : ∀ g, rowB po' g → rowB po g ∨ wr.heap.size ≤ g)
    (hl : 1 < w.heap.size ∧ 0 < w.heap.size) : Al w w' H d0 d s m B pt ct fo' po' co' := by
  have hs := h.chg.size
  have hb : Below (max 1 0 + 1) wr w' := hc.below (fun k hk => by have := (owns_lt h.own hk).1; omega) (by omega)
  refine ⟨h.is.chg hc (fun k e e2 => (h.avO k e2).1 e), h.tb.below hb (by omega) (by omega), h.chg.trans hc (fun q e => .inr (owns_lt h.own e).1), h.inD, h.tab.kept (hc.block B h.tab.ltB (fun e => (h.avO B e).2.1 rfl)) (fun g hg => hc.block g (h.tab.ltG hg).2 (fun e => (h.avO g e).2.2 hg)), ho, h.avT, fun g hg => (hR g hg).elim (h.avO g) (fun x => ⟨fun e => by have := h.is.lt e; omega, fun e => by have := h.tab.ltB; omega, fun e => by have := (h.tab.ltG e).2; omega⟩)⟩
end
/-- A cursor that is made of slots in a new row. -/
theorem Hc.new {w2 : World} {H m base : Nat} {d : Ids} {s : St} {p2 : Option Addr} {c2 : Nat} {L : List Int} (b col : Int) (hI : Is w2 H d s m) (ht : Tabs w2) (ho : w2.ownsRow base 3 1 (.slice p2 L.length c2) L.length (cellsZ L)) (hn : ∀ g, rowB p2 g → ¬ Mine H d g) (o : Obj)
    (hw : o = .cells #[.pointer (some ⟨H, 0, none⟩), .int .i64 b, .int .i64 col, .slice p2 L.length c2] 82 (0, 0)) : Hc (w2.alloc o) H d w2.heap.size (w2.alloc o) d s m b col p2 c2 L := by
  subst hw
  have hal := (Below.refl w2.heap.size w2).alloc (Nat.le_refl _) (.cells #[.pointer (some ⟨H, 0, none⟩), .int .i64 b, .int .i64 col, .slice p2 L.length c2] 82)
  have hr := Rd.of_owns ho
  refine ⟨hI.later hal, ht.later hal, ⟨by simp, by simp, by simp, by simp, by simp, hr.later hal, (owns_cap ho).1, fun e => by have := (owns_lt ho e).2; omega, fun g hg => by have := (owns_lt ho hg).2; simp; omega⟩, fun e => by have := hI.lt e; omega, hn, ?_, Chg.refl _ _, fun _ e => .inl e⟩
  have := hI.hi H (.inr (.inl (.inl rfl)))
  have := hI.ltH
  omega

set_option maxRecDepth 100000 in
set_option maxHeartbeats 4000000 in
theorem all_good {H m : Nat} {d : Ids} {s : St} (c : Int) (w : World) (h : Is w H d s m) (ht : Tabs w) (hc : colB c = true) (hm : m < 500000) (hA : (allP s.c s.ks s.ks.length).length ≤ 1000) : Calls Tryz.prog 23 #[.pointer (some ⟨H, 0, none⟩), .int .i64 c] w
    (Swept w H d (swS s c (allP s.c s.ks s.ks.length)) (m + (allP s.c s.ks s.ks.length).length) (swF s c (allP s.c s.ks s.ks.length))) := by
  have hR := h.wf.right
  have hfull := h.wf.full
  have hRC := Blk.slots_bd h.wf.right
  have hbb0 := hRC.b0
  have hbb1 := hRC.b1
  obtain ⟨nb, hnb⟩ : ∃ nb : Nat, s.c.b = (nb : Int) := ⟨s.c.b.toNat, by omega⟩
  have HK := Lib.hid (fun j => h.tb.kLt j)
  have HT := Lib.hid (Hp.table_any w h)
  have HH := Lib.hid h
  have HTB := Lib.hid ht
  have hl : 1 < w.heap.size ∧ 0 < w.heap.size := by
    have := h.hi H (.inr (.inl (.inl rfl)))
    have := h.ltH
    omega
  have HL := Lib.hid hl
  have hfd : ∀ (x1 x2 x3 x4 x5 x6 : Int) (w : World), (Instr.field 23 (.agg #[.int .i64 (nb : Int), .int .i64 x1, .int .i64 x2, .int .i64 x3, .int .i64 x4, .int .i64 x5, .int .i64 x6]) 0).run Tryz.prog w = .ok (.int .i64 (nb : Int)) w := fun _ _ _ _ _ _ _ => by kernel_rfl
  have hnb1 : (nb : Int) ≤ 4096 := by omega
  clear h ht hl hRC
  go_enter Tryz.func23, Tryz.ntmps23
  go_wp2
  go_step3
  go_wp2_with (go_at_call 44; refine (col_any _ _).mono ?_; rw [hc]; rintro e w' ⟨rfl, rfl⟩)
  refine HT.out.mono ?_
  rintro e w1 ⟨B, pt, ct, rfl, htb, hb1⟩
  have HA1 : Hid (Al w w1 H d d s m B pt ct [] none 0) := Lib.hid ⟨HH.out.later hb1, HTB.out.later hb1, Chg.of_below hb1, fun _ e => .inl e, htb, ⟨by simp [cellsZ], .inl ⟨rfl, rfl⟩⟩, fun g hg e => by
    have := HH.out.lt e
    rcases hg with rfl | hg
    · have := htb.base; omega
    · have := (htb.ltG hg).1; omega, fun g hg => by cases hg⟩
  clear htb hb1 HT
  go_wp2_with fail
  go_step3
  go_wp2_with fail
  refine (Hp.config_any w1 HA1.out.is).mono ?_
  rintro e w2 ⟨rfl, hb2⟩
  have HA2 := Lib.hid (HA1.out.later hb2)
  rw [hnb]
  clear hb2 HA1
  go_wp2_with fail
  go_loopw [7, 23] (fun ov i wr => ∃ (j : Nat) (d' : Ids) (po : Option Addr) (co : Nat), j ≤ nb ∧ i = .int .i64 j ∧ ov = .slice po (swF s c (allP s.c s.ks (min j s.ks.length))).length co ∧
    Al w wr H d d' (swS s c (allP s.c s.ks (min j s.ks.length))) (m + (allP s.c s.ks (min j s.ks.length)).length) B pt ct (swF s c (allP s.c s.ks (min j s.ks.length))) po co) (fun _ i _ => nb - (intOf i).toNat)
  case atStart => exact ⟨0, d, none, 0, Nat.zero_le _, rfl, by simp [allP, swF], by simpa [allP, swF, swS] using HA2.out⟩
  case round =>
    clear HA2
    obtain ⟨j, d', po, co, hj, rfl, rfl, ha⟩ := hrel
    have HA := Lib.hid ha
    clear ha
    have j0 : (0 : Int) ≤ (j : Int) := Int.natCast_nonneg _
    have hpf : (allP s.c s.ks (min j s.ks.length)).length ≤ 1000 := Nat.le_trans (Blk.allP_prefix s.c s.ks (Nat.min_le_right j s.ks.length)).length_le hA
    have hfl := Nat.le_trans (swF_len s c (allP s.c s.ks (min j s.ks.length))) hpf
    have htab : TbIs wr B w.heap.size s.c s.ks pt ct := by have := HA.out.tab; rwa [swS_c, swS_ks] at this
    have HTA := Lib.hid htab
    clear htab
    by_cases hlt : j < nb
    · have j1 : (j : Int) < (nb : Int) := by omega
      by_cases hjL : j < s.ks.length
      · have hN1 : 1 ≤ perN s.c (kAt s.ks j) := Blk.perN_pos hR (HK.out j)
        have HSL : Hid (Calls Tryz.prog 46 #[.pointer (some ⟨B, 0, none⟩), .int .i64 (j : Int)] wr fun e w' => ∃ p' cap', e = .returned (.slice p' (seg s.c s.ks j).length cap') ∧ w'.ownsRow wr.heap.size 3 1 (.slice p' (seg s.c s.ks j).length cap') (seg s.c s.ks j).length (cellsZ (seg s.c s.ks j)) ∧ Below wr.heap.size wr w') := Lib.hid (by
          refine (Blk.slots_in (b := j) (N := perN s.c (kAt s.ks j)) wr HTA.out hR hjL (by omega) (Blk.perN_eq s.c (kAt s.ks j)) hN1 HA.out.tb).mono ?_
          rintro e w' ⟨p', cap', rfl, ho, hb⟩
          rw [← Hp.cellsZ_seg, ← seg_length] at ho
          rw [← seg_length]
          exact ⟨p', cap', rfl, ho, hb⟩)
        have hn0 : (0 : Int) < (seg s.c s.ks j).length := by rw [seg_length]; omega
        have hn1 : (((seg s.c s.ks j).length : Int) == 0) = false := by rw [beq_eq_false_iff_ne]; omega
        have hsl := seg_le s j
        have HS1 : Hid (allP s.c s.ks (min (j + 1) s.ks.length) = allP s.c s.ks (min j s.ks.length) ++ seg s.c s.ks j) := Lib.hid (by
          rw [show min j s.ks.length = j by omega, show min (j + 1) s.ks.length = j + 1 by omega, allP_succ])
        have HL1 : Hid ((allP s.c s.ks (min j s.ks.length) ++ seg s.c s.ks j).length ≤ 1000) := Lib.hid (by
          rw [← HS1.out]
          exact Nat.le_trans (Blk.allP_prefix s.c s.ks (Nat.min_le_right (j + 1) s.ks.length)).length_le hA)
        clear hN1
        generalize hPe : allP s.c s.ks (min j s.ks.length) = P at *
        generalize hGe : seg s.c s.ks j = G at *
        generalize hFe : swF s c P = fo at *
        have HFE := Lib.hid hFe
        clear hPe hGe hFe
        go_wp2_with fail
        refine HSL.out.mono ?_
        rintro e w3 ⟨p3, c3, rfl, ho3, hb3⟩
        have HO3 := Lib.hid ho3
        have HB3 := Lib.hid hb3
        clear ho3 hb3 HSL
        have HCN := Lib.hid (Hc.new (j : Int) c (HA.out.later HB3.out).is (HA.out.later HB3.out).tb HO3.out (fun g hg e => by have := HA.out.is.lt e; have := (owns_lt HO3.out hg).1; omega) _ rfl)
        go_wp2_with fail
        refine (freed_any _ HCN.out (by omega) (by omega)).mono ?_
        rintro e w4 ⟨d4, p4, cap4, pf, cf, rfl, ho4⟩
        have hb4 : Below wr.heap.size wr (w3.alloc (.cells #[.pointer (some ⟨H, 0, none⟩), .int .i64 j, .int .i64 c, .slice p3 G.length c3] 82)) := HB3.out.alloc HB3.out.size _
        have HA4 := Lib.hid (HA.out.sweep hb4 HB3.out.size ho4.hc (swS_c ..) (swS_ks ..))
        have HR4 := Lib.hid (Rd.of_owns ho4.own).rd0
        have hfl2 := swF_len (swS s c P) c G
        clear ho4 hb4 HCN HA HTA
        have hws : w.heap.size ≤ w4.heap.size := HA4.out.chg.size
        go_wp2_with (at_builtin; refine wpList_append_row2 rfl (.tmp 38) (.tmp 43) rfl w.heap.size po co fo rfl HA4.out.own pf cf (swF (swS s c P) c G) rfl HR4.out (by omega) hws ?_)
        intro p5 c5 w5 ho5 hC5 hR5
        rw [← List.length_append] at ho5
        have HA5 := Lib.hid (HA4.out.push hC5 ho5 hR5 HL.out)
        clear ho5 hC5 hR5 HA4 HR4
        go_wp2
        go_roundw
        case rel =>
          refine ⟨j + 1, d4, p5, c5, by omega, by go_num, ?_, ?_⟩
          · rw [HS1.out, swF_append, HFE.out, List.length_append]
          · rw [HS1.out, swF_append, swS_append, HFE.out, List.length_append, ← Nat.add_assoc]
            exact HA5.out
        case measure => simp [intOf]; omega
      · have HSL := Lib.hid (Blk.slots_out (some ⟨B, 0, none⟩) (j : Int) wr (fun W hW => Blk.class_out (j : Int) W (HTA.out.later hW) (.inr (by omega))))
        have HS1 : Hid (allP s.c s.ks (min (j + 1) s.ks.length) = allP s.c s.ks (min j s.ks.length)) := Lib.hid (by
          rw [show min j s.ks.length = s.ks.length by omega, show min (j + 1) s.ks.length = s.ks.length by omega])
        generalize hPe : allP s.c s.ks (min j s.ks.length) = P at *
        clear hPe
        go_wp2_with fail
        refine HSL.out.mono ?_
        rintro e w3 ⟨p3, c3, rfl, hb3⟩
        have HA3 := Lib.hid (HA.out.later hb3)
        clear hb3 HSL HA
        go_wp2
        go_roundw
        case rel =>
          refine ⟨j + 1, d', po, co, by omega, by go_num, ?_, ?_⟩
          · rw [HS1.out]
          · rw [HS1.out]; exact HA3.out
        case measure => simp [intOf]; omega
    · have j1 : ¬ (j : Int) < (nb : Int) := by omega
      have hmin : min j s.ks.length = s.ks.length := by omega
      rw [hmin] at HA hpf hfl
      rw [hmin]
      generalize hPe : allP s.c s.ks s.ks.length = P at *
      clear hPe
      go_wp2
      try rw [Exit.noGoto_ret]
      go_ret2
      exact ⟨d', po, co, rfl, HA.out.is, HA.out.tb, HA.out.chg, HA.out.inD, HA.out.own, fun g hg => (HA.out.avO g hg).1⟩
end Go.Proofs.YtbejddpfnglkbaaGreatDoor.Sw
