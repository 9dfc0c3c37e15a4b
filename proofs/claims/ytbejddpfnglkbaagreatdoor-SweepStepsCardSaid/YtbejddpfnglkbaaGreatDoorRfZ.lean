/-
  The law's Alike: a heap and the document's are the same.
-/
import Derived.Test.YtbejddpfnglkbaaGreatDoorRfY
import Derived.Test.YtbejddpfnglkbaaGreatDoorHq5
import Derived.Deep.RegionHeld3
namespace Go.Proofs.YtbejddpfnglkbaaGreatDoor.Rf
open Go.RowKit Go.Sort
open Blk (Cfg allP)
open Lis (intsN)
open Hp (St Wf Mine bnI own coE coV cV ccE fN fE lV lE objL hanL pkA_eq NewRow)
open Go.Proofs.YtbejddpfnglkbaaGreatDoor.Row (Chg Rd rowB cellsZ owns_lt same_any)
open Go.Proofs.YtbejddpfnglkbaaGreatDoor.Addr (Tabs)

theorem guard_ne (b wd m r ce lg st : Int) (w : World) :
    (binOp .neq 23 (.agg #[.int .i64 b, .int .i64 wd, .int .i64 m, .int .i64 r, .int .i64 ce, .int .i64 lg, .int .i64 st]) (.agg #[.int .i64 b, .int .i64 wd, .int .i64 m, .int .i64 r, .int .i64 ce, .int .i64 lg, .int .i64 st])).run Tryz.prog w = .ok (.bool false) w := by
  have hp : Tryz.prog.stoodInHeld 23 = false := by kernel_rfl
  have hu := Tryz.underlying23
  have h3 := Tryz.underlying3
  have c3 : Tryz.prog.cellsOf 3 = 1 := by kernel_rfl
  rw [run_neq_struct, run_equalIn_agg _ _ _ _ _ (by unfold Program.fieldsOf; rw [hu]) hp]
  unfold Program.fieldsOf
  rw [hu]
  simp only [Op.eqFields]
  simp [go_sem, h3, part]
section
variable {H M base m : Nat} {d : Hp.Ids} {i : Ri} {s : St}
theorem obj_len (h : Wf s) (hb4 : s.c.b ≤ 4) : (objL s).length ≤ 512 ∧ (hanL s).length ≤ 512 ∧ s.ws.length ≤ 1024 := by
  have h1 := Blk.allP_len s.c s.ks s.ks.length
  have h2 := h.full
  have hR := Blk.slots_bd h.right
  have h3 := h.words
  have h4 : s.c.b * s.c.wd ≤ 4 * 256 := Int.mul_le_mul hb4 hR.wd1 (by have := hR.wd0; omega) (by omega)
  refine ⟨?_, ?_, by omega⟩
  · unfold objL; rw [pkA_eq]; exact Nat.le_trans (List.length_filter_le ..) (by omega)
  · unfold hanL; rw [pkA_eq]; exact Nat.le_trans (List.length_filter_le ..) (by omega)
theorem obj_at (h : Wf s) {a : Int} (hb : bnI s a = true) : fE s a = 0 ∧ fN s a ≤ 15 ∧ coE s a = 0 ∧ roV s a = coV s a ∧ ∀ k : Nat, k < fN s a → lE s a k = 0 := by
  have ho := h.bnI_own hb
  obtain ⟨n, rfl, n1, n2⟩ := own_nat h ho
  have hbn := hb
  rw [Hp.bnI_nat] at hbn
  have hi := (h.born n hbn).2
  have ht : Hp.takB s n = true := by unfold Hp.takB; rw [hb, Int.toNat_natCast, hi]; rfl
  have hE : fE s n = 0 := by unfold fE; rw [if_neg (by omega), if_pos ht]
  have hr := own_room h ho hi
  have hs := (Class.sizI_bd (h.geo ho).cl).2
  have hN := fN_ob hE
  rw [Int.toNat_natCast] at hN
  refine ⟨hE, by omega, by unfold coE; rw [if_pos hb], by unfold roV coV; rw [if_pos hb, if_pos hb], fun k hk => ?_⟩
  unfold lE
  rw [if_pos hE, if_pos ⟨by omega, by omega⟩]
theorem obj_bn (_h : Wf s) (_hk : ∀ j, Blk.kAt s.ks j < 4) {q : Nat} (hq : q < (objL s).length) : bnI s ((objL s).getD q 0) = true := by
  have hm : (objL s).getD q 0 ∈ objL s := by
    rw [List.getD_eq_getElem?_getD, List.getElem?_eq_getElem hq]
    exact List.getElem_mem hq
  generalize (objL s).getD q 0 = x at *
  unfold objL at hm
  rw [pkA_eq] at hm
  exact (List.mem_filter.1 hm).2
set_option maxRecDepth 2000000 in
set_option maxHeartbeats 20000000 in
theorem alike_any (w : World) (h : Bo w H d M base i w d s m i s) (hm : m ≤ 600000) (hb4 : s.c.b ≤ 4) :
    Calls Tryz.prog 12 #[.pointer (some ⟨H, 0, none⟩), .pointer (some ⟨M, 0, none⟩)] w fun e w' => e = .returned (.bool true) ∧ ∃ d' m', Bo w H d M base i w' d' s m' i s := by
  have HH := Lib.hid h
  obtain ⟨hL1, hL2, hL3⟩ := obj_len h.is.wf hb4
  have HK4 := Lib.hid h.rp.k4
  have HWF := Lib.hid h.is.wf
  have HLA : Hid (∀ W, Below w.heap.size w W → Bo w H d M base i W d s m i s) := Lib.hid fun W hb => h.later hb
  have HS : Hid (∀ W, Below w.heap.size w W → W.cell? ⟨M, 0, none⟩ = some (.int .i64 s.c.b) ∧ W.cell? ⟨M, 1, none⟩ = some (.int .i64 s.c.wd) ∧ W.cell? ⟨M, 2, none⟩ = some (.int .i64 s.c.m) ∧ W.cell? ⟨M, 3, none⟩ = some (.int .i64 s.c.r) ∧ W.cell? ⟨M, 4, none⟩ = some (.int .i64 s.c.ce) ∧ W.cell? ⟨M, 5, none⟩ = some (.int .i64 s.c.lg) ∧ W.cell? ⟨M, 6, none⟩ = some (.int .i64 s.c.st)) :=
    Lib.hid fun W hb => cfg_load (HLA.out W hb).rp.mem
  have HA2 : Hid (∀ W, Below w.heap.size w W → Calls Tryz.prog 35 #[.pointer (some ⟨M, 0, none⟩), .int .i64 2] W (NewRow W (objL s))) := Lib.hid fun W hb => by
    have := all_any 2 W (HLA.out W hb).rp (by omega)
    rw [alP_obj HWF.out HK4.out] at this
    exact this
  have HA0 : Hid (∀ W, Below w.heap.size w W → Calls Tryz.prog 35 #[.pointer (some ⟨M, 0, none⟩), .int .i64 0] W (NewRow W (hanL s))) := Lib.hid fun W hb => by
    have := all_any 0 W (HLA.out W hb).rp (by omega)
    rw [alP_han HWF.out HK4.out] at this
    exact this
  have HB1 : Hid (Below w.heap.size w (w.drewN 1)) := Lib.hid (below_drewN (Below.refl _ w) 1)
  have HK0 := Lib.hid (HS.out _ HB1.out)
  have hgd := guardCfg
  have hne := guard_ne s.c.b s.c.wd s.c.m s.c.r s.c.ce s.c.lg s.c.st
  clear h
  go_enter Tryz.func12, Tryz.ntmps12
  go_wp2
  go_region_held3 (fun W => W.cell? ⟨M, 0, none⟩ = some (.int .i64 s.c.b) ∧ W.cell? ⟨M, 1, none⟩ = some (.int .i64 s.c.wd) ∧ W.cell? ⟨M, 2, none⟩ = some (.int .i64 s.c.m) ∧ W.cell? ⟨M, 3, none⟩ = some (.int .i64 s.c.r) ∧ W.cell? ⟨M, 4, none⟩ = some (.int .i64 s.c.ce) ∧ W.cell? ⟨M, 5, none⟩ = some (.int .i64 s.c.lg) ∧ W.cell? ⟨M, 6, none⟩ = some (.int .i64 s.c.st))
    (first | exact HK0.out | exact S2 | exact S3 | exact S4 | exact S5 | exact S6 | exact S7 | exact S8)
    (first
      | (go_at_call 34; refine (Hp.config_any _ (HLA.out _ HB1.out).is).mono ?_; rintro e w2 ⟨rfl, hb2⟩; have B2 := Lib.hid (HB1.out.trans (hb2.mono HB1.out.size)); have S2 := HS.out _ B2.out; clear hb2)
      | (go_at_call 24; refine (Hp.objects_any _ (HLA.out _ B2.out).is (HLA.out _ B2.out).tb).mono ?_; rintro e w3 ⟨p3, c3, rfl, ho3, hb3⟩; have B3 := Lib.hid (B2.out.trans (hb3.mono B2.out.size)); have S3 := HS.out _ B3.out; have R3 := Lib.hid (Rd.of_owns ho3); clear ho3 hb3)
      | (go_at_call 35; (with_reducible refine Calls.mono (HA2.out _ B3.out) ?_); rintro e w4 ⟨p4, c4, rfl, ho4, hb4⟩; have B4 := Lib.hid (B3.out.trans (hb4.mono B3.out.size)); have S4 := HS.out _ B4.out; have R4 := Lib.hid (Rd.of_owns ho4); have R34 := Lib.hid (R3.out.later hb4); clear ho4 hb4)
      | (go_at_call 13; (with_reducible refine Calls.mono (same_any p3 p4 c3 c4 (objL s) _ R34.out R4.out (by omega)) ?_); rintro e w5 ⟨rfl, hw5⟩; have B5 := Lib.hid (show Below w.heap.size w w5 from by obtain ⟨q5, rfl⟩ := hw5; exact below_drewN B4.out q5); have S5 := HS.out _ B5.out; clear hw5)
      | (go_at_call 36; refine (Hp.hands_any _ (HLA.out _ B5.out).is (HLA.out _ B5.out).tb).mono ?_; rintro e w6 ⟨p6, c6, rfl, ho6, hb6⟩; have B6 := Lib.hid (B5.out.trans (hb6.mono B5.out.size)); have S6 := HS.out _ B6.out; have R6 := Lib.hid (Rd.of_owns ho6); clear ho6 hb6)
      | (go_at_call 35; (with_reducible refine Calls.mono (HA0.out _ B6.out) ?_); rintro e w7 ⟨p7, c7, rfl, ho7, hb7⟩; have B7 := Lib.hid (B6.out.trans (hb7.mono B6.out.size)); have S7 := HS.out _ B7.out; have R7 := Lib.hid (Rd.of_owns ho7); have R67 := Lib.hid (R6.out.later hb7); clear ho7 hb7)
      | (go_at_call 13; (with_reducible refine Calls.mono (same_any p6 p7 c6 c7 (hanL s) _ R67.out R7.out (by omega)) ?_); rintro e w8 ⟨rfl, hw8⟩; have B8 := Lib.hid (show Below w.heap.size w w8 from by obtain ⟨q8, rfl⟩ := hw8; exact below_drewN B7.out q8); have S8 := HS.out _ B8.out; clear hw8))
  clear S2 S3 S4 S5 S6 S7 S8 R3 R4 R34 R6 R7 R67 B2 B3 B4 B5 B6 B7 HA0 HK0 HB1 hgd hne
  have HM := Lib.hid (show m ≤ 900000 from by omega)
  go_wp2
  go_loopw [5] (fun x wr => ∃ k : Nat, k ≤ 4 ∧ x = .int .i64 (k : Int) ∧ Below w.heap.size w wr) (fun x _ => 4 - (intOf x).toNat)
  case atStart => exact ⟨0, by omega, rfl, B8.out⟩
  case round =>
    obtain ⟨k, hk, rfl, hbr⟩ := hrel
    have k0 : (0 : Int) ≤ (k : Int) := Int.natCast_nonneg _
    have HBR := Lib.hid hbr
    clear B8
    by_cases hlt : k < 4
    · have k1 : (k : Int) < 4 := by omega
      have HCF : Hid (∀ W, Below w.heap.size w W → W.cell? ⟨M, 9 + k, none⟩ = some (.slice (i.fp k) (intsN (s.hv k)).length (i.fc k))) := Lib.hid fun W hb => (HLA.out W hb).rp.mem.cF k hlt
      have HRF : Hid (∀ W, Below w.heap.size w W → Rd W (i.fp k) (intsN (s.hv k))) := Lib.hid fun W hb => (HLA.out W hb).rp.mem.fr k hlt
      have HLE : Hid ((intsN (s.hv k)).length ≤ 1048576) := Lib.hid (by
        have := HH.out.is.cnt.2.2 k hlt
        simp only [intsN, List.length_map]
        omega)
      have HB1 : Hid (Below w.heap.size w (wr.drewN 1)) := Lib.hid (hbr.trans ((below_drewN (Below.refl _ wr) 1).mono hbr.size))
      have HK0 := Lib.hid (HCF.out _ HB1.out)
      clear hbr
      go_wp2
      go_region_held3 (fun W => W.cell? ⟨M, 9 + k, none⟩ = some (.slice (i.fp k) (intsN (s.hv k)).length (i.fc k)))
        (first | exact HK0.out | exact S2 | exact S3)
        (first
          | (go_at_call 37; refine (Hp.frees_any k _ (HLA.out _ HB1.out).is (by omega) hlt).mono ?_; rintro e w2 ⟨p2, c2, rfl, ho2, hb2⟩; have B2 := Lib.hid (HB1.out.trans (hb2.mono HB1.out.size)); have S2 := HCF.out _ B2.out; have R2 := Lib.hid (Rd.of_owns ho2); clear ho2 hb2)
          | (go_at_call 13; refine (same_any p2 (i.fp k) c2 (i.fc k) (intsN (s.hv k)) _ R2.out (HRF.out _ B2.out) HLE.out).mono ?_; rintro e w3 ⟨rfl, hw3⟩; have B3 := Lib.hid (show Below w.heap.size w w3 from by obtain ⟨q3, rfl⟩ := hw3; exact B2.out.trans ((below_drewN (Below.refl _ w2) q3).mono B2.out.size)); have S3 := HCF.out _ B3.out; clear hw3))
      clear S2 S3 HK0 HCF
      go_wp2
      go_roundw
      case rel => exact ⟨k + 1, by omega, by go_num, B3.out⟩
      case measure => simp [intOf]; omega
    · obtain rfl : k = 4 := by omega
      clear hbr hlt
      generalize wr = wx at *
      go_wp2_with (go_at_call 35; refine (HA2.out _ HBR.out).mono ?_; rintro e w8 ⟨p8, c8, rfl, ho8, hb8⟩; have B8 := Lib.hid (HBR.out.trans (hb8.mono HBR.out.size)); have O8 := Lib.hid ho8; clear ho8 hb8)
      have HB8 : Hid (Bo w8 H d M base i w8 d s m i s) := Lib.hid (HLA.out _ B8.out).self
      have HRD : Hid (∀ W d' m', Bo w8 H d M base i W d' s m' i s → Rd W p8 (objL s)) := Lib.hid fun W d' m' hB =>
        (Rd.of_owns O8.out).kept fun g hg _ => hB.chg.block g (owns_lt O8.out hg).2 (fun e => e.elim (fun e => by have := (HLA.out _ HBR.out).is.lt e; have := (owns_lt O8.out hg).1; omega) (fun e => by have := (HLA.out _ HBR.out).rp.mem.ltA e; have := (owns_lt O8.out hg).1; omega))
      have HFN : Hid (∀ W d' m', Bo w8 H d M base i W d' s m' i s → Bo w H d M base i W d' s m' i s) := Lib.hid fun W d' m' hB => (HLA.out _ B8.out).trans hB
      generalize hLL : (objL s).length = L at *
      have HLL := Lib.hid hLL
      clear hLL O8 HBR HA2 B8
      go_loopw [7] (fun x wr => ∃ (q : Nat) (d' : Hp.Ids) (m' : Nat), q ≤ L ∧ x = .int .i64 (q : Int) ∧ m' ≤ m + 40 * q ∧ Bo w8 H d M base i wr d' s m' i s) (fun x _ => L - (intOf x).toNat)
      case atStart => exact ⟨0, d, m, Nat.zero_le _, rfl, by omega, HB8.out⟩
      case round =>
        obtain ⟨q, d', m', hq, rfl, hm', hB⟩ := hrel
        have HB := Lib.hid hB
        have j0 : (0 : Int) ≤ (q : Int) := Int.natCast_nonneg _
        clear HB8
        by_cases hlt : q < L
        · have j1 : (q : Int) < (L : Int) := by omega
          obtain ⟨g, off, rfl, hc⟩ := (HRD.out _ _ _ hB).at (j := q) (by rw [HLL.out]; exact hlt)
          have HCL : Hid (∀ W d' m', Bo w8 H d M base i W d' s m' i s → W.cell? ⟨g, off + q, none⟩ = some (.int .i64 ((objL s).getD q 0))) := Lib.hid fun W d' m' hB => by
            obtain ⟨g2, o2, e, hc⟩ := (HRD.out _ _ _ hB).at (j := q) (by rw [HLL.out]; exact hlt)
            cases e
            exact hc
          have hbn := obj_bn HWF.out HK4.out (q := q) (by rw [HLL.out]; exact hlt)
          obtain ⟨hE, hN15, hco, hro, hlE⟩ := obj_at HWF.out hbn
          generalize (objL s).getD q 0 = a at *
          have H1 : Hid (∀ (W : World) (d2 : Hp.Ids) (m2 : Nat), Hp.Is W H d2 s m2 → Tabs W → m2 < 900000 → Calls Tryz.prog 38 #[.pointer (some ⟨H, 0, none⟩), .int .i64 a] W fun e w' => e = .returned (.tuple #[.int .i64 (fN s a), .int .i64 0]) ∧ Hp.To W w' H d2 s (m2 + 1)) := Lib.hid fun W d2 m2 hI ht hm2 => by
            have := Hp.fields_any a W hI ht (by omega)
            rw [hE] at this
            exact this
          have H2 : Hid (∀ (W : World), Rp W M base i s → Calls Tryz.prog 39 #[.pointer (some ⟨M, 0, none⟩), .int .i64 a] W fun e w' => e = .returned (.tuple #[.int .i64 (fN s a), .int .i64 0]) ∧ W = w') := Lib.hid fun W hR => by
            have := fields_any a W hR
            rw [hE] at this
            exact this
          have H3 : Hid (∀ (W : World) (d2 : Hp.Ids) (m2 : Nat), Hp.Is W H d2 s m2 → Calls Tryz.prog 25 #[.pointer (some ⟨H, 0, none⟩), .int .i64 a] W fun e w' => e = .returned (.tuple #[.int .i64 (coV s a), .int .i64 0]) ∧ Below W.heap.size W w') := Lib.hid fun W d2 m2 hI => by
            have := Hp.color_any' a W hI
            rw [hco] at this
            exact this
          have H4 : Hid (∀ (W : World), Rp W M base i s → Calls Tryz.prog 40 #[.pointer (some ⟨M, 0, none⟩), .int .i64 a] W fun e w' => e = .returned (.int .i64 (coV s a)) ∧ ∃ q, w' = W.drewN q) := Lib.hid fun W hR => by
            have := color_any a W hR
            rw [hro] at this
            exact this
          have H5 : Hid (∀ (W : World) (d2 : Hp.Ids) (m2 k : Nat), k < fN s a → Hp.Is W H d2 s m2 → Tabs W → m2 < 900000 → Calls Tryz.prog 41 #[.pointer (some ⟨H, 0, none⟩), .int .i64 a, .int .i64 k] W fun e w' => e = .returned (.tuple #[.int .i64 (lV s a k), .int .i64 0]) ∧ Hp.To W w' H d2 s (m2 + 2)) := Lib.hid fun W d2 m2 k hk hI ht hm2 => by
            have := Hp.load_any a k W hI ht hm2
            rw [hlE k hk] at this
            exact this
          have H6 : Hid (∀ (W : World) (k : Nat), k < fN s a → Rp W M base i s → Calls Tryz.prog 42 #[.pointer (some ⟨M, 0, none⟩), .int .i64 a, .int .i64 k] W fun e w' => e = .returned (.tuple #[.int .i64 (lV s a k), .int .i64 0]) ∧ W = w') := Lib.hid fun W k hk hR => by
            have := load_any a k W hR
            rw [hlE k hk] at this
            exact this
          clear hE hco hro hlE hB hbn
          generalize coV s a = cv at *
          generalize fN s a = n at *
          generalize wr = wy at *
          go_wp2_with (first
            | (go_at_call 38; refine (H1.out _ _ _ HB.out.is HB.out.tb (by omega)).mono ?_; rintro e w5 ⟨rfl, hT⟩; obtain ⟨d5, hB5⟩ := HB.out.heap hT; have HB5 := Lib.hid hB5; have c5 := HCL.out _ _ _ hB5; clear hT hB5)
            | (go_at_call 39; refine (H2.out _ HB5.out.rp).mono ?_; rintro e w' ⟨rfl, rfl⟩)
            | (go_at_call 25; refine (H3.out _ _ _ HB5.out.is).mono ?_; rintro e w7 ⟨rfl, hb7⟩; have hB7 := HB5.out.later hb7; have HB7 := Lib.hid hB7; have c7 := HCL.out _ _ _ hB7; clear hb7 hB7)
            | (go_at_call 40; refine (H4.out _ HB7.out.rp).mono ?_; rintro e w' ⟨rfl, q8, rfl⟩))
          have HB9 := Lib.hid (HB7.out.drewN q8)
          clear c5 c7 hc H1 H2 H3 H4
          go_loopw [14] (fun x wr => ∃ (k : Nat) (d2 : Hp.Ids) (m2 : Nat), k ≤ n ∧ x = .int .i64 (k : Int) ∧ m2 ≤ m' + 1 + 2 * k ∧ Bo w8 H d M base i wr d2 s m2 i s) (fun x _ => n - (intOf x).toNat)
          case atStart => exact ⟨0, d5, _, Nat.zero_le _, rfl, by omega, HB9.out⟩
          case round =>
            obtain ⟨k, d2, m2, hk, rfl, hm2, hB2⟩ := hrel
            have HC := Lib.hid hB2
            have k0 : (0 : Int) ≤ (k : Int) := Int.natCast_nonneg _
            clear HB9
            by_cases hltk : k < n
            · have k1 : (k : Int) < (n : Int) := by omega
              have c2 := HCL.out _ _ _ hB2
              clear hB2
              go_wp2_with (first
                | (go_at_call 41; refine (H5.out _ _ _ k hltk HC.out.is HC.out.tb (by omega)).mono ?_; rintro e w9 ⟨rfl, hT⟩; obtain ⟨d9, hB9⟩ := HC.out.heap hT; have HC9 := Lib.hid hB9; have c9 := HCL.out _ _ _ hB9; clear hT hB9)
                | (go_at_call 42; refine (H6.out _ k hltk HC9.out.rp).mono ?_; rintro e w' ⟨rfl, rfl⟩))
              go_roundw
              case rel => exact ⟨k + 1, d9, _, by omega, by go_num, by omega, HC9.out⟩
              case measure => simp [intOf]; omega
            · have k1 : ¬ (k : Int) < (n : Int) := by omega
              clear hB2
              go_wp2
              go_roundw
              case rel => exact ⟨q + 1, d2, m2, by omega, by go_num, by omega, HC.out⟩
              case measure => simp [intOf]; omega
        · have j1 : ¬ (q : Int) < (L : Int) := by omega
          have h64 : s.ce.length ≤ 64 := HH.out.is.capc.2
          clear hB
          generalize wr = wy at *
          go_wp2
          go_loopw [19] (fun x wr => ∃ (k : Nat), k ≤ s.ce.length ∧ x = .int .i64 (k : Int) ∧ Bo w8 H d M base i wr d' s m' i s) (fun x _ => s.ce.length - (intOf x).toNat)
          case atStart => exact ⟨0, Nat.zero_le _, rfl, HB.out⟩
          case round =>
            obtain ⟨k, hk, rfl, hB2⟩ := hrel
            have HC := Lib.hid hB2
            have k0 : (0 : Int) ≤ (k : Int) := Int.natCast_nonneg _
            have cE := hB2.rp.mem.cE
            by_cases hltk : k < s.ce.length
            · have k1 : (k : Int) < (s.ce.length : Int) := by omega
              have HCE : Hid (Calls Tryz.prog 43 #[.pointer (some ⟨H, 0, none⟩), .int .i64 k] wr fun e w' => e = .returned (.tuple #[.int .i64 (s.ce.getD k 0), .int .i64 0]) ∧ Below wr.heap.size wr w') := Lib.hid (by
                have := Hp.cell_any k wr hB2.is
                have e1 : cV s k = s.ce.getD k 0 := by unfold cV; rw [if_pos ⟨by omega, by omega⟩, Int.toNat_natCast]
                have e2 : ccE s k = 0 := by unfold ccE; rw [if_pos ⟨by omega, by omega⟩]
                rw [e1, e2] at this
                exact this)
              clear hB2
              go_wp2_with (go_at_call 43; refine HCE.out.mono ?_; rintro e w9 ⟨rfl, hb9⟩; have hB9 := HC.out.later hb9; have HC9 := Lib.hid hB9; have cE9 := hB9.rp.mem.cE; have ck9 := hB9.rp.mem.cells k hltk; clear hb9 hB9)
              go_roundw
              case rel => exact ⟨k + 1, by omega, by go_num, HC9.out⟩
              case measure => simp [intOf]; omega
            · have k1 : ¬ (k : Int) < (s.ce.length : Int) := by omega
              clear hB2
              go_wp2
              go_ret
              exact ⟨rfl, _, _, HFN.out _ _ _ HC.out⟩
end
end Go.Proofs.YtbejddpfnglkbaaGreatDoor.Rf
