/-
  The law SweepBlocks answers true.
-/
import Derived.Test.YtbejddpfnglkbaaGreatDoorSwK
namespace Go.Proofs.YtbejddpfnglkbaaGreatDoor.Sw
open Go.RowKit
open Blk (Cfg TbIs kAt seg seg_length perN allP allP_succ allP_len blk adr little little_any little_right)
open Hp (Ids St Wf Is To Mine bnI bn coE coV frE frS colB holdsF own cls fr puS unS mkE mkS mkA st0)
open Rf (Rp RTo Pu Ri Sl All Bo Lo Keep mkW)
open Go.Proofs.YtbejddpfnglkbaaGreatDoor.Row (Chg Rd Rd0 cell_of_block frozen_of_block other same rowB cellsZ cellsZ_length cellsZ_at cellsZ_snoc owns_lt owns_chg owns_slice owns_base owns_cap owns_block push_row info_parts infoInt one_at)
open Go.Proofs.YtbejddpfnglkbaaGreatDoor.Addr (Tabs)

theorem Lw.alike {w wr : World} {H M base m : Nat} {d : Ids} {i : Ri} {s : St} (h : Lw w wr H M base d i s s m) (hm : m ≤ 600000) (hb4 : s.c.b ≤ 4) :
    Calls Tryz.prog 12 #[.pointer (some ⟨H, 0, none⟩), .pointer (some ⟨M, 0, none⟩)] wr fun e w' => e = .returned (.bool true) ∧ ∃ d' m', Lw w w' H M base d' i s s m' := by
  refine (Rf.alike_any wr h.bo hm hb4).mono ?_
  rintro e w' ⟨rfl, d', m', hB⟩
  exact ⟨rfl, d', m', h.bo' hB⟩
/-- A block, swept by the program, above what lay. -/
theorem Lw.block {w wr : World} {H M base m : Nat} {d : Ids} {i : Ri} {s r : St} (h : Lw w wr H M base d i s r m) (b : Nat) (c : Int) (hb : b < s.ks.length) (hc : colB c = true) (hm : m < 500000) :
    Calls Tryz.prog 11 #[.pointer (some ⟨H, 0, none⟩), .int .i64 b, .int .i64 c] wr fun e w' => ∃ d' po co, e = .returned (.tuple #[.slice po (swF s c (seg s.c s.ks b)).length co, .int .i64 0]) ∧ Lw w w' H M base d' i (swS s c (seg s.c s.ks b)) r (m + (seg s.c s.ks b).length) ∧
      w'.ownsRow wr.heap.size 3 1 (.slice po (swF s c (seg s.c s.ks b)).length co) (swF s c (seg s.c s.ks b)).length (cellsZ (swF s c (seg s.c s.ks b))) ∧ ∀ g, rowB po g → ¬ Mine H d' g := by
  refine (block_good b c wr h.bo.is h.bo.tb hb hc hm).mono ?_
  rintro e w' ⟨d', po, co, rfl, h1, _, h3, h4, h5, h6⟩
  exact ⟨d', po, co, rfl, h.heap h1 h3 h4, h5, h6⟩
theorem seg_filter {s : St} (h : Wp s) {b : Nat} (hb : b < s.ks.length) : (allP s.c s.ks s.ks.length).filter (inBl s b) = seg s.c s.ks b := by
  rw [filter_seg h.wf h.k4 b _ (Nat.le_refl _), if_pos hb]
/-- A block, swept by the document. -/
theorem Lw.swept {w wr : World} {H M base m : Nat} {d : Ids} {i : Ri} {s r : St} (h : Lw w wr H M base d i s r m) (hp : Wp r) (hA : (allP r.c r.ks r.ks.length).length ≤ 1000) (b : Nat) (c : Int) (hb : b < r.ks.length) :
    Calls Tryz.prog 14 #[.pointer (some ⟨M, 0, none⟩), .int .i64 b, .int .i64 c] wr fun e w' => ∃ i' po co, e = .returned (.slice po (swF r c (seg r.c r.ks b)).length co) ∧ Lw w w' H M base d i' s (swS r c (seg r.c r.ks b)) m ∧ Chg (All M i) wr w' ∧
      w'.ownsRow wr.heap.size 3 1 (.slice po (swF r c (seg r.c r.ks b)).length co) (swF r c (seg r.c r.ks b)).length (cellsZ (swF r c (seg r.c r.ks b))) ∧ ∀ g, rowB po g → ¬ All M i' g := by
  have := swept_gen b c wr h.bo.rp hp hA
  rw [seg_filter hp hb] at this
  refine this.mono ?_
  rintro e w' ⟨i', po, co, rfl, hr⟩
  exact ⟨i', po, co, rfl, h.ref hr.rp hr.chg hr.inI, hr.chg, hr.own, hr.av⟩
theorem colB_no {c : Int} (h : c < 0 ∨ 1 < c) : colB c = false := by
  unfold colB
  have h0 : (c == 0) = false := by rw [beq_eq_false_iff_ne]; omega
  have h1 : (c == 1) = false := by rw [beq_eq_false_iff_ne]; omega
  rw [h0, h1]; rfl
theorem colB_yes {c : Int} (h : ¬ (c < 0 ∨ 1 < c)) : colB c = true := by
  have : c = 0 ∨ c = 1 := by omega
  rcases this with rfl | rfl <;> rfl

set_option maxRecDepth 100000 in
set_option maxHeartbeats 4000000 in
theorem blocks_walk (c : Cfg) (pa : Option Addr) (ca : Nat) (l : List (Nat × Nat × Bool)) (b col : Int) (w : World) (ht : Tabs w) (hl : ThingsP w.heap.size w pa l) (hla : l.length ≤ maxLen) :
    Calls Tryz.prog 3 #[(.agg #[.int .i64 c.b, .int .i64 c.wd, .int .i64 c.m, .int .i64 c.r, .int .i64 c.ce, .int .i64 c.lg, .int .i64 c.st]), .slice pa l.length ca, .agg #[.int .i64 b, .int .i64 col]] w fun e w' => e = .returned (.bool true) ∧ Below w.heap.size w w' := by
  have HT := Lib.hid ht
  have HTH := Lib.hid hl
  have HR := Lib.hid (little_right c)
  obtain ⟨nc, hnc, hnc3⟩ := little_ce' c
  obtain ⟨n, hn, hn2⟩ := little_n' c
  have HNC := Lib.hid hnc
  have HN := Lib.hid hn
  clear ht hl hnc hn
  go_enter Tryz.func3, Tryz.ntmps3
  go_wp2_with fail
  refine (little_any c _).mono ?_
  rintro e w1 ⟨rfl, hb1⟩
  have HB1 : Hid (Below w.heap.size w w1) := Lib.hid ((((Below.refl _ w).alloc (Nat.le_refl _) _).alloc (by simp) _).trans (hb1.mono (by simp; omega)))
  have hq0 : w1.cell? ⟨w.heap.size + 1, 0, none⟩ = some (.int .i64 b) := by
    rw [hb1.cell (p := ⟨w.heap.size + 1, 0, none⟩) (by simp)]
    simp
  have hq1 : w1.cell? ⟨w.heap.size + 1, 1, none⟩ = some (.int .i64 col) := by
    rw [hb1.cell (p := ⟨w.heap.size + 1, 1, none⟩) (by simp)]
    simp
  have hq9 : w.heap.size + 1 < w1.heap.size := World.block_lt_of_cell? w1 _ hq0
  clear hb1
  go_wp2_with fail
  refine (made_any w.heap.size (little c) n nc pa ca l w1 (HT.out.later HB1.out) HR.out HN.out HNC.out (by omega) HB1.out.size (HTH.out.below HB1.out) hla).mono ?_
  rintro e w2 ⟨H, M, base, d, i, m, rfl, hmad⟩
  have HSM := Lib.hid hmad.sm
  have HM7 := Lib.hid hmad.hm
  have HL2 := Lib.hid (hmad.lw HB1.out)
  have hq0 := (hmad.bel.cell (p := ⟨w.heap.size + 1, 0, none⟩) hq9).trans hq0
  have hq1 := (hmad.bel.cell (p := ⟨w.heap.size + 1, 1, none⟩) hq9).trans hq1
  have hq9 : w.heap.size + 1 < w2.heap.size := World.block_lt_of_cell? w2 _ hq0
  clear hmad
  generalize madeS (st0 (little c) n nc) (l.take 40) = s at *
  go_wp2_with fail
  refine (awake_any w2 HL2.out.bo.tb).mono ?_
  rintro e w3 ⟨rfl, hb3⟩
  have HL3 := Lib.hid (HL2.out.later hb3)
  have hq0 := (hb3.cell (p := ⟨w.heap.size + 1, 0, none⟩) hq9).trans hq0
  have hq1 := (hb3.cell (p := ⟨w.heap.size + 1, 1, none⟩) hq9).trans hq1
  clear hb3 HL2 hq9
  have cU := HL3.out.bo.rp.mem.cU
  go_wp2_with fail
  go_quiet (fail)
  have HL4 := Lib.hid (HL3.out.later (below_drewN (Below.refl _ w3) nq))
  have hks : s.ks.length ≤ 4 := HSM.out.ks
  clear cU HL3
  by_cases hb0 : b < 0
  · have db0 : decide (b < 0) = true := decide_eq_true hb0
    go_wp2_with fail
    refine (block_bad b col _ HL4.out.bo.is (.inr (.inl hb0))).mono ?_
    rintro e w5 ⟨rfl, hb5⟩
    have HL5 := Lib.hid (HL4.out.later hb5)
    have cU := HL5.out.bo.rp.mem.cU
    clear hb5
    go_wp2_with fail
    refine (HL5.out.alike (by have := HM7.out; omega) HSM.out.b4).mono ?_
    rintro e w6 ⟨rfl, d6, m6, hL6⟩
    have HL6 := Lib.hid hL6
    clear hL6
    go_wp2
    go_ret
    exact ⟨rfl, HL6.out.bel⟩
  have db0 : decide (b < 0) = false := decide_eq_false hb0
  by_cases hbk : (s.ks.length : Int) ≤ b
  · have dbk : decide ((s.ks.length : Int) ≤ b) = true := decide_eq_true hbk
    go_wp2_with fail
    refine (block_bad b col _ HL4.out.bo.is (.inr (.inr hbk))).mono ?_
    rintro e w5 ⟨rfl, hb5⟩
    have HL5 := Lib.hid (HL4.out.later hb5)
    have cU := HL5.out.bo.rp.mem.cU
    clear hb5
    go_wp2_with fail
    refine (HL5.out.alike (by have := HM7.out; omega) HSM.out.b4).mono ?_
    rintro e w6 ⟨rfl, d6, m6, hL6⟩
    have HL6 := Lib.hid hL6
    clear hL6
    go_wp2
    go_ret
    exact ⟨rfl, HL6.out.bel⟩
  have dbk : decide ((s.ks.length : Int) ≤ b) = false := decide_eq_false hbk
  by_cases hc0 : col < 0
  · have dc0 : decide (col < 0) = true := decide_eq_true hc0
    go_wp2_with fail
    refine (block_bad b col _ HL4.out.bo.is (.inl (colB_no (.inl hc0)))).mono ?_
    rintro e w5 ⟨rfl, hb5⟩
    have HL5 := Lib.hid (HL4.out.later hb5)
    have cU := HL5.out.bo.rp.mem.cU
    clear hb5
    go_wp2_with fail
    refine (HL5.out.alike (by have := HM7.out; omega) HSM.out.b4).mono ?_
    rintro e w6 ⟨rfl, d6, m6, hL6⟩
    have HL6 := Lib.hid hL6
    clear hL6
    go_wp2
    go_ret
    exact ⟨rfl, HL6.out.bel⟩
  have dc0 : decide (col < 0) = false := decide_eq_false hc0
  by_cases hc1 : 1 < col
  · have dc1 : decide (1 < col) = true := decide_eq_true hc1
    go_wp2_with fail
    refine (block_bad b col _ HL4.out.bo.is (.inl (colB_no (.inr hc1)))).mono ?_
    rintro e w5 ⟨rfl, hb5⟩
    have HL5 := Lib.hid (HL4.out.later hb5)
    have cU := HL5.out.bo.rp.mem.cU
    clear hb5
    go_wp2_with fail
    refine (HL5.out.alike (by have := HM7.out; omega) HSM.out.b4).mono ?_
    rintro e w6 ⟨rfl, d6, m6, hL6⟩
    have HL6 := Lib.hid hL6
    clear hL6
    go_wp2
    go_ret
    exact ⟨rfl, HL6.out.bel⟩
  have dc1 : decide (1 < col) = false := decide_eq_false hc1
  obtain ⟨bn, rfl⟩ : ∃ n : Nat, b = (n : Int) := ⟨b.toNat, by omega⟩
  have hcol := colB_yes (c := col) (by omega)
  have hbn : bn < s.ks.length := by omega
  have hsl := seg_le s bn
  go_wp2_with fail
  refine (HL4.out.block bn col hbn hcol (by have := HM7.out; omega)).mono ?_
  rintro e w5 ⟨d5, po, co, rfl, hL5, ho5, hav5⟩
  have HL5 := Lib.hid hL5
  have HO5 := Lib.hid ho5
  have hlt5 : Hid (∀ g, rowB po g → ¬ All M i g) := Lib.hid fun g hg e => by
    have h1 := (owns_lt ho5 hg).1
    have h2 := HL4.out.bo.rp.mem.ltA e
    omega
  have cU := HL5.out.bo.rp.mem.cU
  have hfl := swF_len s col (seg s.c s.ks bn)
  clear hL5 ho5 hav5
  go_wp2_with fail
  refine (HL5.out.swept HSM.out.wp HSM.out.all bn col hbn).mono ?_
  rintro e w6 ⟨i6, p6, c6, rfl, hL6, hC6, ho6, hav6⟩
  have HL6 := Lib.hid hL6
  have HR5 := Lib.hid (Rd.of_owns (owns_chg HO5.out hC6 hlt5.out))
  have HR6 := Lib.hid (Rd.of_owns ho6)
  clear hL6 hC6 ho6 hav6 cU
  go_wp2_with fail
  refine (Row.same_any po p6 co c6 _ w6 HR5.out HR6.out (by omega)).mono ?_
  rintro e w7 ⟨rfl, q7, rfl⟩
  have HL7 := Lib.hid (HL6.out.later (below_drewN (Below.refl _ w6) q7))
  go_wp2_with fail
  refine (HL7.out.alike (by have := HM7.out; omega) (by rw [swS_c]; exact HSM.out.b4)).mono ?_
  rintro e w8 ⟨rfl, d8, m8, hL8⟩
  have HL8 := Lib.hid hL8
  clear hL8
  go_wp2
  go_ret
  exact ⟨rfl, HL8.out.bel⟩
end Go.Proofs.YtbejddpfnglkbaaGreatDoor.Sw
