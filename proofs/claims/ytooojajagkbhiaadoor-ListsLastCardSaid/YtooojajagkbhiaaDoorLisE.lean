/-
  The law's arena, table and lists, made.
-/
import Derived.Test.YtooojajagkbhiaaDoorBlkM
import Derived.Test.YtooojajagkbhiaaDoorLisG
namespace Go.Proofs.YtooojajagkbhiaaDoor.Lis
open Go.RowKit
open Class (isB isB_true isB_false is_any)
open Go.Proofs.YtooojajagkbhiaaDoor.Row (Chg)
open Blk (Cfg TbIs ret_int ret_bool other same ownB ownV ownV_no ownV_yes owner_any blk kAt OwnIs BytesP kL kL_len kL_more kL_full rowB assign_goodZ assign_full)
open Arena (ArIs Two)
open Bits (SetIs)
open Go.Proofs.YtooojajagkbhiaaDoor.Addr (Tabs)

/-- Words that are all 0. -/
def ws0 (n : Nat) : List Nat := List.replicate n 0
/-- An arena, a table and lists that have none. -/
def Made (w w' : World) (d : Cfg) (ks : List Nat) (e : Ending) : Prop := ∃ (A G T L I J n capT base : Nat) (p : Option Addr),
  e = .returned (.tuple #[.pointer (some ⟨A, 0, none⟩), .pointer (some ⟨T, 0, none⟩), .pointer (some ⟨L, 0, none⟩)]) ∧ d.b * d.wd = (n : Int) ∧
  Sit w' L A G T I J n ((n + 1 + 63) / 64) base (fun _ => none) (fun _ => 0) (fun _ => []) (ws0 n) (List.replicate ((n + 1 + 63) / 64) 0) 0 0 ∧
  TbIs w' T w.heap.size d ks p capT ∧ (∀ j, Own L A G I J (fun _ => none) j → j ≠ T ∧ ¬ rowB p j ∧ w.heap.size ≤ j) ∧ Below w.heap.size w w'

theorem tb_base {w : World} {B base base' capT : Nat} {c : Cfg} {ks : List Nat} {p : Option Addr} (h : TbIs w B base c ks p capT) (hb : base' ≤ base) : TbIs w B base' c ks p capT :=
  { h with own := Blk.owns_base hb h.own, base := Nat.le_trans hb h.base }
theorem made_fin {w w1 w2 wr w7 : World} {d : Cfg} {ks : List Nat} {p : Option Addr} {A G T L I J n cap : Nat} (hn : d.b * d.wd = (n : Int)) (hA1 : w1.heap.size ≤ A) (hG1 : w1.heap.size ≤ G) (hA2 : A < w2.heap.size) (hG2 : G < w2.heap.size)
    (hAr : ArIs wr A G n (ws0 n) 0 0) (hS : TbIs wr T w2.heap.size d ks p cap) (hb1 : Below w.heap.size w w1) (hb2 : Below w1.heap.size w1 w2) (hb : Below w2.heap.size w2 wr)
    (hL : LsIs w7 L A T I wr.heap.size (fun _ => none) (fun _ => 0) (fun _ => [])) (hSI : SetIs w7 I J ((ws0 n).length + 1) (((ws0 n).length + 1 + 63) / 64) (List.replicate (((ws0 n).length + 1 + 63) / 64) 0))
    (hI : wr.heap.size ≤ I) (hJ : wr.heap.size ≤ J) (hIL : I < L) (hJL : J < L) (hIJ : I ≠ J) (hLl : L < w7.heap.size) (hb7 : Below wr.heap.size wr w7) :
    Made w w7 d ks (.returned (.tuple #[.pointer (some ⟨A, 0, none⟩), .pointer (some ⟨T, 0, none⟩), .pointer (some ⟨L, 0, none⟩)])) := by
  have hlen : (ws0 n).length = n := by simp [ws0]
  have s1 := hb1.size
  have s2 := hb2.size
  have s3 := hb.size
  have s7 := hb7.size
  have t1 := hS.base
  have t2 := hS.ltB
  have hAG := hAr.ne
  rw [hlen] at hSI
  refine ⟨A, G, T, L, I, J, n, cap, wr.heap.size, p, rfl, hn, ⟨hL, hAr.below hb7 (by omega) (by omega), by rw [hlen]; exact hSI, ⟨by omega, by omega, by omega, by omega, hAG, by omega, by omega, by omega, by omega, hIJ⟩, by omega, by omega, (fun k _ g hg => by cases hg), s7⟩,
    tb_base (hS.later hb7) (by omega), fun j hj => ?_, hb1.trans ((hb2.trans ((hb.trans (hb7.mono s3)).mono s2)).mono s1)⟩
  refine ⟨?_, fun hr => ?_, ?_⟩
  · rcases hj with e | e | e | e | e | ⟨i, _, e⟩
    · omega
    · omega
    · omega
    · omega
    · omega
    · cases e
  · have := hS.ltG hr
    rcases hj with e | e | e | e | e | ⟨i, _, e⟩
    · omega
    · omega
    · omega
    · omega
    · omega
    · cases e
  · rcases hj with e | e | e | e | e | ⟨i, _, e⟩
    · omega
    · omega
    · omega
    · omega
    · omega
    · cases e

set_option maxRecDepth 100000 in
set_option maxHeartbeats 4000000 in
theorem made_any (d : Cfg) (pa : Option Addr) (ca : Nat) (za : List Nat) (w : World) (ht : Tabs w) (hR : rightB d.b d.wd d.m d.r d.ce d.lg d.st = true) (hb4 : 1 ≤ d.b ∧ d.b ≤ 4096) (ha : BytesP w.heap.size w pa za) (hz : za.length ≤ 140737488355328) :
    Calls Tryd.prog 8 #[.agg #[.int .i64 d.b, .int .i64 d.wd, .int .i64 d.m, .int .i64 d.r, .int .i64 d.ce, .int .i64 d.lg, .int .i64 d.st], .slice pa za.length ca] w fun e w' => Made w w' d (kL (fun j => za.getD j 0 % 4) (min za.length 10) d.b.toNat) e := by
  have HT := Lib.hid ht
  have HA := Lib.hid ha
  have hRC : RightC d.b d.wd d.m d.r d.ce d.lg d.st := refRightB_true.1 ((rightB_ref ..).symm.trans hR)
  obtain ⟨p0, p1⟩ := hRC.words
  obtain ⟨n, hn⟩ : ∃ n : Nat, d.b * d.wd = (n : Int) := ⟨(d.b * d.wd).toNat, by omega⟩
  have hn1 : 1 ≤ n := by
    have h1 : 1 * 1 ≤ d.b * d.wd := Int.mul_le_mul hb4.1 (by have := hRC.wd0; omega) (by decide) (by omega)
    omega
  have hn2 : n ≤ 1048576 := by omega
  have HR := Lib.hid hR
  clear ht ha hRC p0 p1 hR
  go_enter Tryd.func8, Tryd.ntmps8
  go_wp2_with fail
  obtain ⟨w1, hw1⟩ : ∃ w1, w1 = w.alloc (.cells #[.int .i64 d.b, .int .i64 d.wd, .int .i64 d.m, .int .i64 d.r, .int .i64 d.ce, .int .i64 d.lg, .int .i64 d.st] 23) := ⟨_, rfl⟩
  rw [← hw1]
  have hb1 : Below w.heap.size w w1 := by rw [hw1]; exact (Below.refl _ _).alloc (Nat.le_refl _) _
  have hbox : Blk.BoxIs w1 w.heap.size d := by rw [hw1]; exact ⟨by simp, by simp, by simp, by simp, by simp, by simp, by simp⟩
  have hs1 : w1.heap.size = w.heap.size + 1 := by rw [hw1]; simp
  clear hw1
  refine (Arena.new_good n _ hn1 hn2).mono ?_
  rintro e w2 ⟨A, G, rfl, hAr, hA1, hG1, hA2, hG2, hb2⟩
  have c0 := (hbox.later hb2).b0
  have c1 := (hbox.later hb2).b1
  have c2 := (hbox.later hb2).b2
  have c3 := (hbox.later hb2).b3
  have c4 := (hbox.later hb2).b4
  have c5 := (hbox.later hb2).b5
  have c6 := (hbox.later hb2).b6
  have HX := Lib.hid hbox
  have HB1 := Lib.hid hb1
  have HB2 := Lib.hid hb2
  have HAr := Lib.hid (show ArIs w2 A G n (ws0 n) 0 0 from hAr)
  clear hbox hb1 hb2 hAr
  go_wp2_with fail
  refine (Blk.new_good d _ (HT.out.later (HB1.out.trans (HB2.out.mono HB1.out.size))).lim HR.out).mono ?_
  rintro e w3 ⟨T, rfl, h3, hb3⟩
  have HS3 := Lib.hid h3
  have HB3 := Lib.hid hb3
  clear h3 hb3 c0 c1 c2 c3 c4 c5 c6
  obtain ⟨nb, hnb⟩ : ∃ n : Nat, d.b = (n : Int) := ⟨d.b.toNat, by omega⟩
  go_wp2_with fail
  go_loopw [11] (fun i wr => ∃ (m : Nat) (p : Option Addr) (cap : Nat), m ≤ min za.length 10 ∧ i = .int .i64 (m : Int) ∧ TbIs wr T w2.heap.size d (kL (fun j => za.getD j 0 % 4) m nb) p cap ∧ Below w2.heap.size w2 wr) (fun i _ => za.length - (intOf i).toNat)
  case atStart => exact ⟨0, none, 0, Nat.zero_le _, rfl, by simpa [kL] using HS3.out, HB3.out⟩
  case round =>
    obtain ⟨m, p, cap, hm, rfl, hS, hB⟩ := hrel
    have HS := Lib.hid hS
    have HB := Lib.hid hB
    have HArr := Lib.hid (HAr.out.below hB hA2 hG2)
    clear hS hB
    by_cases hlt : m < za.length
    · by_cases h10 : m < 10
      · obtain ⟨b, off, rfl, hbS, hz8, hcx⟩ := (HA.out.below (HB1.out.trans ((HB2.out.trans (HB.out.mono HB2.out.size)).mono HB1.out.size))) m hlt
        have i1 : (0 : Int) ≤ (m : Int) := Int.natCast_nonneg _
        have i2 : (m : Int) < (za.length : Int) := by omega
        have i3 : (m : Int) < 10 := by omega
        have hgz : (fun j => za.getD j 0 % 4) m = za.getD m 0 % 4 := rfl
        generalize hzz : za.getD m 0 = z at *
        by_cases hmb : m < nb
        · have hmd : (m : Int) < d.b := by omega
          have HK := Lib.hid (kL_more (fun j => za.getD j 0 % 4) hmb)
          rw [hzz] at HK
          have hlen : (kL (fun j => za.getD j 0 % 4) m nb).length = m := by rw [kL_len]; omega
          go_wp2_with fail
          refine (assign_goodZ _ (z % 4) (by omega) _ HS.out (Nat.mod_lt _ (by decide)) (by rw [hlen]; omega) (by omega) HB.out.size).mono ?_
          rintro e w5 ⟨rfl, p5, cap5, h5, hc5, hr5⟩
          rw [hlen]
          have hb5 := HB.out.trans (hc5.below (fun i hi => hi.elim (fun e => by rw [e]; exact HS.out.base) (fun e => (HS.out.ltG e).1)) HB.out.size)
          have H5 := Lib.hid h5
          have HB5 := Lib.hid hb5
          clear h5 hc5 hr5 hb5 hlen hgz
          go_wp2
          go_roundw
          case rel => exact ⟨m + 1, p5, cap5, by omega, by go_num, by rw [HK.out]; exact H5.out, HB5.out⟩
          case measure => simp [intOf]; omega
        · have hmd : ¬ (m : Int) < d.b := by omega
          have HK := Lib.hid (kL_full (fun j => za.getD j 0 % 4) (m := m) (nb := nb) (by omega))
          have hlen : (kL (fun j => za.getD j 0 % 4) m nb).length = nb := by rw [kL_len]; omega
          go_wp2_with fail
          refine (assign_full _ _ HS.out (isB_true.2 ⟨by omega, by omega⟩) (by rw [hlen]; omega)).mono ?_
          rintro e w5 ⟨rfl, n5, rfl⟩
          clear hlen hgz
          go_wp2
          go_roundw
          case rel => exact ⟨m + 1, p, cap, by omega, by go_num, by rw [HK.out]; exact HS.out.drewN _, below_drewN HB.out _⟩
          case measure => simp [intOf]; omega
      · have i3 : ¬ (m : Int) < 10 := by omega
        have i2 : (m : Int) < (za.length : Int) := by omega
        have hmm : m = min za.length 10 := by omega
        have hlen : (ws0 n).length = n := by simp [ws0]
        have HM := Lib.hid hmm
        clear hmm
        go_wp2_with fail
        refine (new_good _ (HArr.out) (Nat.lt_of_lt_of_le hG2 HB.out.size) HS.out (HT.out.later (HB1.out.trans ((HB2.out.trans (HB.out.mono HB2.out.size)).mono HB1.out.size))).lim HR.out (by rw [hlen]; exact hn.symm)).mono ?_
        rintro e w7 ⟨L, I, J, rfl, hL, hSI, hI, hJ, hIL, hJL, hIJ, hLl, hb7⟩
        go_wp2
        have hF := made_fin hn hA1 hG1 hA2 hG2 HArr.out HS.out HB1.out HB2.out HB.out hL hSI hI hJ hIL hJL hIJ hLl hb7
        rw [HM.out] at hF
        refine bodyPost_ret (v := .tuple #[.pointer (some ⟨A, 0, none⟩), .pointer (some ⟨T, 0, none⟩), .pointer (some ⟨L, 0, none⟩)]) (by simp [results, Tryd.results8, go_sem]) rfl ?_
        rw [show d.b.toNat = nb by omega]
        exact hF
    · have i2 : ¬ (m : Int) < (za.length : Int) := by omega
      have hmm : m = min za.length 10 := by omega
      have hlen : (ws0 n).length = n := by simp [ws0]
      have HM := Lib.hid hmm
      clear hmm
      go_wp2_with fail
      refine (new_good _ (HArr.out) (Nat.lt_of_lt_of_le hG2 HB.out.size) HS.out (HT.out.later (HB1.out.trans ((HB2.out.trans (HB.out.mono HB2.out.size)).mono HB1.out.size))).lim HR.out (by rw [hlen]; exact hn.symm)).mono ?_
      rintro e w7 ⟨L, I, J, rfl, hL, hSI, hI, hJ, hIL, hJL, hIJ, hLl, hb7⟩
      go_wp2
      have hF := made_fin hn hA1 hG1 hA2 hG2 HArr.out HS.out HB1.out HB2.out HB.out hL hSI hI hJ hIL hJL hIJ hLl hb7
      rw [HM.out] at hF
      refine bodyPost_ret (v := .tuple #[.pointer (some ⟨A, 0, none⟩), .pointer (some ⟨T, 0, none⟩), .pointer (some ⟨L, 0, none⟩)]) (by simp [results, Tryd.results8, go_sem]) rfl ?_
      rw [show d.b.toNat = nb by omega]
      exact hF
end Go.Proofs.YtooojajagkbhiaaDoor.Lis
