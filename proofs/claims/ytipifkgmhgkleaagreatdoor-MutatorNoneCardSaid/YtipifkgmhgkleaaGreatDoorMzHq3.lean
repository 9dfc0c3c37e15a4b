/-
  Texts of the heap, one behind the other: HpK HpL HpM HpN HpO.
-/
import Derived.Test.YtipifkgmhgkleaaGreatDoorMzHq2
namespace Go.Proofs.YtipifkgmhgkleaaGreatDoor.Hp
open Go.RowKit
open Class (isB isB_true isB_false is_any sizI sizI_bd roomI SizTab quiet_left below_drewN)
open Blk (Cfg TbIs ownB ownB_true blk kAt rowB BoxIs)
open Go.Proofs.YtipifkgmhgkleaaGreatDoor.Row (Chg Rd)
open Arena (ArIs Two)
open Bits (SetIs)
open Lis (Sit Five Held LsIs upd upd_same upd_other set_kept lastN)
open Go.Proofs.YtipifkgmhgkleaaGreatDoor.Addr (Tabs adrB adrB_true)

def zs (n : Nat) : List Nat := List.replicate ((n + 1 + 63) / 64) 0
/-- What a new heap has. -/
def st0 (c : Cfg) (n nc : Nat) : St := { c := c, ks := [], hv := fun _ => [], ws := List.replicate n 0, bs := zs n, os := zs n, ce := List.replicate nc 0 }
theorem wf0 {c : Cfg} {n nc : Nat} (hR : rightB c.b c.wd c.m c.r c.ce c.lg c.st = true) (hn : c.b * c.wd = (n : Int)) : Wf (st0 c n nc) := by
  have hRC := Blk.slots_bd hR
  refine ⟨hR, by show _ = ((List.replicate n 0).length : Int); rw [List.length_replicate]; exact hn, by show ((0 : Nat) : Int) ≤ c.b; have := hRC.b0; omega, fun k _ a ha => (by cases ha), fun a ha => ?_, fun a ho _ => ?_, fun j _ => Arena.wd_zero n j⟩
  · have : hasB (zs n) a = true := ha
    unfold zs at this
    rw [hasB_zero (n + 1) a] at this
    cases this
  · exact absurd (ownB_true.1 ho).2.1 (Nat.not_lt_zero _)

/-- Cells that are all 0. -/
def zeroInts (n : Nat) : Array Value := madeCells #[.int .i64 0] n
theorem zeroInts_at (n j : Nat) (h : j < n) : (zeroInts n)[j]? = some (.int .i64 0) := by
  unfold zeroInts
  have := toList_madeCells_one (.int .i64 0) n
  rw [← Array.getElem?_toList, this, List.getElem?_replicate]
  simp [h]
theorem make_ints (n : Nat) (h : n ≤ 1048576) (W : World) :
    (Instr.makeSlice 40 (.int .i64 (n : Int)) (.int .i64 (n : Int))).run Tryz.prog W = .ok (.slice (some ⟨W.heap.size, 0, none⟩) n n) (W.alloc (.cells (zeroInts n) 3)) := by
  obtain ⟨i, hi, hz, hs, hb⟩ := Row.info_parts Row.infoInt
  have hr := run_make (P := Tryz.prog) W 40 3 i (.int .i64 0) Tryz.underlying40 hi hz .i64 .i64 n n (by omega) (by omega) (by rw [hb]; omega) (by omega)
  simp only [Int.toNat_natCast, hs, Nat.mul_one] at hr
  exact hr

theorem new_bad (c : Cfg) (w : World) (ht : Tabs w) (hr : rightB c.b c.wd c.m c.r c.ce c.lg c.st = false) : Calls Tryz.prog 38 #[(.agg #[.int .i64 c.b, .int .i64 c.wd, .int .i64 c.m, .int .i64 c.r, .int .i64 c.ce, .int .i64 c.lg, .int .i64 c.st])] w fun e w' => e = .returned (.tuple #[.pointer none, .int .i64 1]) ∧ Below w.heap.size w w' := by
  have HT := Lib.hid ht.lim
  clear ht
  go_enter Tryz.func38, Tryz.ntmps38
  go_wp2_with (go_at_call 76; refine (right_any _ _ _ _ _ _ _ _ (HT.out.alloc _)).mono ?_; rintro e w' ⟨rfl, hb⟩; rw [hr])
  go_ret2
  exact ⟨rfl, ((Below.refl _ _).alloc (Nat.le_refl _) _).trans (hb.mono (by simp))⟩

theorem new_fin {w w1 w2 w3 w4 w5 w6 : World} {c : Cfg} {n nc A G T L I J B Bw O Ow : Nat} (hR : rightB c.b c.wd c.m c.r c.ce c.lg c.st = true) (hn : c.b * c.wd = (n : Int)) (hnc : nc ≤ 64) (htt : Tabs w) (hb1 : Below w.heap.size w w1)
    (hAr : ArIs w2 A G n (List.replicate n 0) 0 0) (hA1 : w1.heap.size ≤ A) (hG1 : w1.heap.size ≤ G) (hA2 : A < w2.heap.size) (hG2 : G < w2.heap.size) (hb2 : Below w1.heap.size w1 w2)
    (hT : TbIs w3 T w2.heap.size c [] none 0) (hb3 : Below w2.heap.size w2 w3)
    (hL : LsIs w4 L A T I w3.heap.size (fun _ => none) (fun _ => 0) (fun _ => [])) (hS : SetIs w4 I J (n + 1) ((n + 1 + 63) / 64) (zs n)) (hI1 : w3.heap.size ≤ I) (hJ1 : w3.heap.size ≤ J) (hI2 : I < L) (hJ2 : J < L) (hIJ : I ≠ J) (hL2 : L < w4.heap.size) (hb4 : Below w3.heap.size w3 w4)
    (hB : SetIs w5 B Bw (n + 1) ((n + 1 + 63) / 64) (zs n)) (hB1 : w4.heap.size ≤ B) (hBw1 : w4.heap.size ≤ Bw) (hB2 : B < w5.heap.size) (hBw2 : Bw < w5.heap.size) (hBB : B ≠ Bw) (hb5 : Below w4.heap.size w4 w5)
    (hO : SetIs w6 O Ow (n + 1) ((n + 1 + 63) / 64) (zs n)) (hO1 : w5.heap.size ≤ O) (hOw1 : w5.heap.size ≤ Ow) (hO2 : O < w6.heap.size) (hOw2 : Ow < w6.heap.size) (hOO : O ≠ Ow) (hb6 : Below w5.heap.size w5 w6) :
    ∃ d, Is ((w6.alloc (.cells (zeroInts nc) 3)).alloc (.cells #[.pointer (some ⟨A, 0, none⟩), .pointer (some ⟨T, 0, none⟩), .pointer (some ⟨L, 0, none⟩), .pointer (some ⟨B, 0, none⟩), .pointer (some ⟨O, 0, none⟩), .slice (some ⟨w6.heap.size, 0, none⟩) nc nc] 158)) (w6.heap.size + 1) d (st0 c n nc) 0 ∧
      (∀ k, Mine (w6.heap.size + 1) d k → w.heap.size ≤ k) ∧ Below w.heap.size w ((w6.alloc (.cells (zeroInts nc) 3)).alloc (.cells #[.pointer (some ⟨A, 0, none⟩), .pointer (some ⟨T, 0, none⟩), .pointer (some ⟨L, 0, none⟩), .pointer (some ⟨B, 0, none⟩), .pointer (some ⟨O, 0, none⟩), .slice (some ⟨w6.heap.size, 0, none⟩) nc nc] 158)) := by
  have s1 := hb1.size
  have s2 := hb2.size
  have s3 := hb3.size
  have s4 := hb4.size
  have s5 := hb5.size
  have s6 := hb6.size
  have t1 := hT.base
  have t2 := hT.ltB
  have hAG := hAr.ne
  have hlen : (List.replicate n 0 : List Nat).length = n := by simp
  have g1 := htt.lim.blk
  have g2 := htt.siz.blk
  generalize hW7 : w6.alloc (.cells (zeroInts nc) 3) = w7
  have hb7 : Below w6.heap.size w6 w7 := by rw [← hW7]; exact (Below.refl _ _).alloc (Nat.le_refl _) _
  have s7 : w7.heap.size = w6.heap.size + 1 := by rw [← hW7]; simp
  have hcel : ∀ j, j < nc → w7.cell? ⟨w6.heap.size, j, none⟩ = some (.int .i64 0) ∧ w7.frozen? ⟨w6.heap.size, j, none⟩ = false := fun j hj => by
    rw [← hW7]; exact ⟨by simp [zeroInts_at nc j hj], by simp⟩
  generalize hW8 : w7.alloc (.cells #[.pointer (some ⟨A, 0, none⟩), .pointer (some ⟨T, 0, none⟩), .pointer (some ⟨L, 0, none⟩), .pointer (some ⟨B, 0, none⟩), .pointer (some ⟨O, 0, none⟩), .slice (some ⟨w6.heap.size, 0, none⟩) nc nc] 158) = w8
  have hb8 : Below w7.heap.size w7 w8 := by rw [← hW8]; exact (Below.refl _ _).alloc (Nat.le_refl _) _
  have s8 : w8.heap.size = w7.heap.size + 1 := by rw [← hW8]; simp
  have hH : ∀ j v, (#[.pointer (some ⟨A, 0, none⟩), .pointer (some ⟨T, 0, none⟩), .pointer (some ⟨L, 0, none⟩), .pointer (some ⟨B, 0, none⟩), .pointer (some ⟨O, 0, none⟩), .slice (some ⟨w6.heap.size, 0, none⟩) nc nc] : Array Value)[j]? = some v → w8.cell? ⟨w6.heap.size + 1, j, none⟩ = some v := fun j v h => by
    rw [← hW8, ← s7, World.cell?_alloc_new]; exact h
  have b68 : Below w6.heap.size w6 w8 := hb7.trans (hb8.mono hb7.size)
  have b58 : Below w5.heap.size w5 w8 := hb6.trans (b68.mono hb6.size)
  have b48 : Below w4.heap.size w4 w8 := hb5.trans (b58.mono hb5.size)
  have b38 : Below w3.heap.size w3 w8 := hb4.trans (b48.mono hb4.size)
  have b28 : Below w2.heap.size w2 w8 := hb3.trans (b38.mono hb3.size)
  have b08 : Below w.heap.size w w8 := hb1.trans ((hb2.trans (b28.mono hb2.size)).mono hb1.size)
  have hmine : ∀ k, Mine (w6.heap.size + 1) (⟨A, G, T, L, I, J, B, Bw, O, Ow, w6.heap.size, n, (n + 1 + 63) / 64, 0, (n + 1 + 63) / 64, (n + 1 + 63) / 64, nc, w3.heap.size, w2.heap.size, fun _ => none, fun _ => 0, none, zs n, 0, 0⟩ : Ids) k → w.heap.size ≤ k := fun k hk => by
    rcases hk with e | e | e
    · unfold lo Lis.Own at e
      rcases e with e | e | e | e | e | ⟨i, _, e⟩
      · have : k = L := e; omega
      · have : k = A := e; omega
      · have : k = G := e; omega
      · have : k = I := e; omega
      · have : k = J := e; omega
      · cases e
    · unfold seven at e
      have : k = w6.heap.size + 1 ∨ k = T ∨ k = B ∨ k = Bw ∨ k = O ∨ k = Ow ∨ k = w6.heap.size := e
      omega
    · cases e
  refine ⟨⟨A, G, T, L, I, J, B, Bw, O, Ow, w6.heap.size, n, (n + 1 + 63) / 64, 0, (n + 1 + 63) / 64, (n + 1 + 63) / 64, nc, w3.heap.size, w2.heap.size, fun _ => none, fun _ => 0, none, zs n, 0, 0⟩, ?_, hmine, b08⟩
  refine ⟨⟨hL.later b48, hAr.below b28 hA2 hG2, ?_, (show Five L A G I J from ⟨by omega, by omega, by omega, by omega, hAG, by omega, by omega, by omega, by omega, hIJ⟩), by show G < _; omega, by show J < _; omega, (fun k _ g hg => by cases hg), by show w3.heap.size ≤ _; omega⟩, ?_, hT.later b38, ?_, ?_,
    hH 0 _ rfl, hH 1 _ rfl, hH 2 _ rfl, hH 3 _ rfl, hH 4 _ rfl, ?_, ?_, ?_, by show Bw < _; omega, by show Ow < _; omega, by show w6.heap.size < _; omega, ?_, ?_, ?_, by show w2.heap.size ≤ _; omega, ?_, ⟨Nat.le_refl _, Nat.le_refl _, fun _ _ => Nat.zero_le _⟩, ?_, wf0 hR hn⟩
  · show SetIs w8 I J ((List.replicate n 0 : List Nat).length + 1) _ _
    rw [hlen]; exact Lis.set_below hS b48 (by omega) (by omega)
  · exact Held.start n _ rfl
  · show SetIs w8 B Bw ((List.replicate n 0 : List Nat).length + 1) _ _
    rw [hlen]; exact Lis.set_below hB b58 hB2 hBw2
  · show SetIs w8 O Ow ((List.replicate n 0 : List Nat).length + 1) _ _
    rw [hlen]; exact Lis.set_below hO b68 hO2 hOw2
  · show w8.cell? _ = some (.slice (some ⟨w6.heap.size, 0, none⟩) (List.replicate nc (0 : Int)).length nc)
    rw [List.length_replicate]; exact hH 5 _ rfl
  · intro j hj
    have hj' : j < nc := by simpa [st0] using hj
    show w8.cell? ⟨w6.heap.size, j, none⟩ = some (.int .i64 ((List.replicate nc (0 : Int)).getD j 0))
    rw [hb8.cell (p := ⟨w6.heap.size, j, none⟩) (by show w6.heap.size < _; omega), (hcel j hj').1]
    simp [List.getD_eq_getElem?_getD, hj']
  · intro j hj
    have hj' : j < nc := by simpa [st0] using hj
    show w8.frozen? ⟨w6.heap.size, j, none⟩ = false
    rw [hb8.frozen (p := ⟨w6.heap.size, j, none⟩) (by show w6.heap.size < _; omega)]; exact (hcel j hj').2
  · show [w6.heap.size + 1, T, B, Bw, O, Ow, w6.heap.size].Nodup
    simp only [List.nodup_cons, List.mem_cons, List.not_mem_nil, or_false, not_or, List.nodup_nil, and_true, not_false_eq_true]
    omega
  · intro k hk e
    unfold lo Lis.Own at hk
    unfold seven at e
    have e' : k = w6.heap.size + 1 ∨ k = T ∨ k = B ∨ k = Bw ∨ k = O ∨ k = Ow ∨ k = w6.heap.size := e
    rcases hk with e | e | e | e | e | ⟨i, _, e⟩
    · have : k = L := e; omega
    · have : k = A := e; omega
    · have : k = G := e; omega
    · have : k = I := e; omega
    · have : k = J := e; omega
    · cases e
  · intro g hg; cases hg
  · intro k hk; have := hmine k hk; omega
  · show (List.replicate nc (0 : Int)).length ≤ nc ∧ (List.replicate nc (0 : Int)).length ≤ 64
    rw [List.length_replicate]; omega

set_option maxRecDepth 100000 in
set_option maxHeartbeats 4000000 in
theorem new_good (c : Cfg) (n nc : Nat) (w : World) (ht : Tabs w) (hR : rightB c.b c.wd c.m c.r c.ce c.lg c.st = true) (hn : c.b * c.wd = (n : Int)) (hnc : c.ce = (nc : Int)) :
    Calls Tryz.prog 38 #[(.agg #[.int .i64 c.b, .int .i64 c.wd, .int .i64 c.m, .int .i64 c.r, .int .i64 c.ce, .int .i64 c.lg, .int .i64 c.st])] w fun e w' => ∃ H d, e = .returned (.tuple #[.pointer (some ⟨H, 0, none⟩), .int .i64 0]) ∧ Is w' H d (st0 c n nc) 0 ∧ (∀ k, Mine H d k → w.heap.size ≤ k) ∧ Below w.heap.size w w' := by
  have hRC : RightC c.b c.wd c.m c.r c.ce c.lg c.st := Blk.slots_bd hR
  have HT := Lib.hid ht
  obtain ⟨p0, p1⟩ := hRC.words
  have hn1 : 1 ≤ n := by
    have h1 : 1 * 1 ≤ c.b * c.wd := Int.mul_le_mul hRC.b0 (by have := hRC.wd0; omega) (by decide) (by have := hRC.b0; omega)
    omega
  have hn2 : n ≤ 1048576 := by omega
  have hnc2 : nc ≤ 64 := by have := hRC.ce1; omega
  have HMI := Lib.hid (make_ints nc (by omega))
  have HRC := Lib.hid hRC
  have HR := Lib.hid hR
  have HN := Lib.hid hn
  have HNC := Lib.hid hnc
  clear ht hRC p0 p1 hR hn hnc
  go_enter Tryz.func38, Tryz.ntmps38
  go_wp2_with fail
  obtain ⟨w1, hw1⟩ : ∃ w1, w1 = w.alloc (.cells #[.int .i64 c.b, .int .i64 c.wd, .int .i64 c.m, .int .i64 c.r, .int .i64 c.ce, .int .i64 c.lg, .int .i64 c.st] 23) := ⟨_, rfl⟩
  rw [← hw1]
  have hb1 : Below w.heap.size w w1 := by rw [hw1]; exact (Below.refl _ _).alloc (Nat.le_refl _) _
  have hbox : BoxIs w1 w.heap.size c := by rw [hw1]; exact ⟨by simp, by simp, by simp, by simp, by simp, by simp, by simp⟩
  have hs1 : w1.heap.size = w.heap.size + 1 := by rw [hw1]; simp
  have HX := Lib.hid hbox
  have HB1 := Lib.hid hb1
  clear hw1 hb1 hbox
  refine (right_any _ _ _ _ _ _ _ w1 (HT.out.later HB1.out).lim).mono ?_
  rintro e w1a ⟨rfl, hb1a⟩
  rw [HR.out]
  have HB1a := Lib.hid hb1a
  have HXa := Lib.hid (HX.out.later hb1a)
  clear hb1a
  have c0 := HXa.out.b0
  have c1 := HXa.out.b1
  have c2 := HXa.out.b2
  have c3 := HXa.out.b3
  have c4 := HXa.out.b4
  have c5 := HXa.out.b5
  have c6 := HXa.out.b6
  go_wp2_with fail
  have HBa := Lib.hid (HB1.out.trans (HB1a.out.mono HB1.out.size))
  refine (words_yes _ _ _ _ _ _ _ _ (HT.out.later HBa.out).lim HRC.out HR.out).mono ?_
  rintro e w1b ⟨rfl, hb1b⟩
  rw [HN.out]
  have HBb := Lib.hid (HBa.out.trans (hb1b.mono HBa.out.size))
  have HXb := Lib.hid (HXa.out.later hb1b)
  clear hb1b c0 c1 c2 c3 c4 c5 c6
  go_wp2_with fail
  refine (Arena.new_good n _ hn1 hn2).mono ?_
  rintro e w2 ⟨A, G, rfl, hAr, hA1, hG1, hA2, hG2, hb2⟩
  have HAr := Lib.hid hAr
  have HB2 := Lib.hid hb2
  have HX2 := Lib.hid (HXb.out.later hb2)
  clear hAr hb2
  have c0 := HX2.out.b0
  have c1 := HX2.out.b1
  have c2 := HX2.out.b2
  have c3 := HX2.out.b3
  have c4 := HX2.out.b4
  have c5 := HX2.out.b5
  have c6 := HX2.out.b6
  go_wp2_with fail
  have HBc := Lib.hid (HBb.out.trans (HB2.out.mono HBb.out.size))
  refine (Blk.new_good c _ (HT.out.later HBc.out).lim HR.out).mono ?_
  rintro e w3 ⟨T, rfl, hT3, hb3⟩
  have HT3 := Lib.hid hT3
  have HB3 := Lib.hid hb3
  have HX3 := Lib.hid (HX2.out.later hb3)
  have HBd := Lib.hid (HBc.out.trans (hb3.mono HBc.out.size))
  clear hT3 hb3 c0 c1 c2 c3 c4 c5 c6
  go_wp2_with fail
  refine (Lis.new_good _ (HAr.out.below HB3.out hA2 hG2) (Nat.lt_of_lt_of_le hG2 HB3.out.size) HT3.out (HT.out.later HBd.out).lim HR.out (by rw [List.length_replicate]; exact HN.out.symm)).mono ?_
  rintro e w4 ⟨L, I, J, rfl, hL, hS, hI1, hJ1, hI2, hJ2, hIJ, hL2, hb4⟩
  rw [List.length_replicate] at hS
  have HL := Lib.hid hL
  have HS := Lib.hid hS
  have HB4 := Lib.hid hb4
  have HX4 := Lib.hid (HX3.out.later hb4)
  clear hL hS hb4
  go_wp2_with fail
  rw [show ((n : Int) + 1) = ((n + 1 : Nat) : Int) by omega]
  refine (Bits.new_good (n + 1) _ (by omega)).mono ?_
  rintro e w5 ⟨B, Bw, rfl, hB, hB1, hBw1, hB2, hBw2, hBB, hb5⟩
  have HBs := Lib.hid hB
  have HB5 := Lib.hid hb5
  have HX5 := Lib.hid (HX4.out.later hb5)
  clear hB hb5
  go_wp2_with fail
  rw [show ((n : Int) + 1) = ((n + 1 : Nat) : Int) by omega]
  refine (Bits.new_good (n + 1) _ (by omega)).mono ?_
  rintro e w6 ⟨O, Ow, rfl, hO, hO1, hOw1, hO2, hOw2, hOO, hb6⟩
  have HOs := Lib.hid hO
  have HB6 := Lib.hid hb6
  have HX6 := Lib.hid (HX5.out.later hb6)
  clear hO hb6
  have c4 := HX6.out.b4
  rw [HNC.out] at c4
  have hmk := HMI.out
  have HF := Lib.hid (new_fin (nc := nc) HR.out HN.out hnc2 HT.out HBb.out HAr.out hA1 hG1 hA2 hG2 HB2.out HT3.out HB3.out HL.out HS.out hI1 hJ1 hI2 hJ2 hIJ hL2 HB4.out HBs.out hB1 hBw1 hB2 hBw2 hBB HB5.out HOs.out hO1 hOw1 hO2 hOw2 hOO HB6.out)
  clear hA1 hG1 hA2 hG2 hI1 hJ1 hI2 hJ2 hIJ hL2 hB1 hBw1 hB2 hBw2 hBB hO1 hOw1 hO2 hOw2 hOO
  go_wp2_with fail
  go_ret2
  obtain ⟨d, h1, h2, h3⟩ := HF.out
  exact ⟨_, d, rfl, h1, h2, h3⟩
end Go.Proofs.YtipifkgmhgkleaaGreatDoor.Hp

namespace Go.Proofs.YtipifkgmhgkleaaGreatDoor.Hp
open Go.RowKit Go.Shelf
open Class (isB isB_true isB_false is_any sizI sizI_bd roomI SizTab quiet_left below_drewN)
open Blk (Cfg TbIs ownB ownB_true blk kAt adr perN perN_eq perN_pos perN_le cellsF BoxIs)
open Go.Proofs.YtipifkgmhgkleaaGreatDoor.Row (Chg Rd Rd0 rowB)
open Arena (ArIs Two)
open Bits (SetIs)
open Lis (Sit Five Held LsIs upd upd_same upd_other set_kept lastN backward_told backward_fn encB idxB tellB)
open Go.Proofs.YtipifkgmhgkleaaGreatDoor.Addr (Tabs adrB adrB_true)
attribute [local go_sem] Oper.semAt_some

/-- Slots put, one behind the other. -/
def puL (s : St) (l : List Nat) : St := l.foldl puS s
theorem puS_hand {s : St} {a b : Nat} (hs : handB s b = true) (hne : a ≠ b) : handB (puS s a) b = true := by
  obtain ⟨h1, h2, h3⟩ := handB_parts hs
  rw [bnI_nat] at h2
  rw [frI_nat] at h3
  have e1 : own (puS s a) b = own s b := rfl
  have e2 : bn (puS s a) b = bn s b := rfl
  have e3 : fr (puS s a) b = false := by
    rw [fr_false] at h3 ⊢
    intro k hk hm
    have hm' : b ∈ upd s.hv (cls s a) (a :: s.hv (cls s a)) k := hm
    by_cases e : k = cls s a
    · rw [e, upd_same] at hm'
      rcases List.mem_cons.1 hm' with e2 | e2
      · exact hne e2.symm
      · rw [← e] at e2; exact h3 k hk e2
    · rw [upd_other _ _ e] at hm'; exact h3 k hk hm'
  unfold handB
  rw [e1, h1, bnI_nat, frI_nat, e2, h2, e3]
  rfl
theorem puL_hand {s : St} {b : Nat} (hs : handB s b = true) : ∀ (l : List Nat), b ∉ l → handB (puL s l) b = true := by
  intro l
  induction l generalizing s with
  | nil => intro _; exact hs
  | cons a l ih =>
    intro hb
    rw [List.mem_cons, not_or] at hb
    exact ih (puS_hand hs (fun e => hb.1 e.symm)) hb.2
theorem puL_c (s : St) (l : List Nat) : (puL s l).c = s.c ∧ (puL s l).ks = s.ks ∧ (puL s l).ws.length = s.ws.length := by
  induction l generalizing s with
  | nil => exact ⟨rfl, rfl, rfl⟩
  | cons a l ih =>
    have := ih (puS s a)
    exact ⟨this.1, this.2.1, this.2.2.trans (by show (s.ws.set _ _).length = _; rw [List.length_set])⟩

/-- The slots of a block that was assigned last. -/
def ad (s : St) (k i : Nat) : Nat := (adr s.c k s.ks.length i).toNat
theorem ad_eq {s : St} (h : Wf s) (k i : Nat) : adr s.c k s.ks.length i = (ad s k i : Int) := by
  unfold ad
  have hRC := Blk.slots_bd h.right
  have : 0 ≤ adr s.c k s.ks.length i := by
    unfold adr
    have h1 : 0 ≤ (s.ks.length : Int) * s.c.wd := Int.mul_nonneg (by omega) (by have := hRC.wd0; omega)
    have h2 : 0 ≤ (i : Int) * sizI k := Int.mul_nonneg (by omega) (by unfold sizI; (repeat' split) <;> omega)
    omega
  omega
theorem ad_hand {s : St} (h : Wf s) {k i : Nat} (hk : k < 4) (hf : (s.ks.length : Int) < s.c.b) (hi : i < perN s.c k) : handB (asS s k) (ad s k i) = true ∧ cls (asS s k) (ad s k i) = k ∧ blk s.c (ad s k i) = s.ks.length := by
  have hkl : kAt (s.ks ++ [k]) s.ks.length = k := kAt_last
  have ho := Lis.own_adr2 (c := s.c) (ks := s.ks ++ [k]) (b := s.ks.length) (i := i) h.right (by simp) hf (by rw [hkl]; exact hk) (by rw [hkl]; exact hi)
  rw [hkl, ad_eq h] at ho
  have ho2 : own (asS s k) (ad s k i) = true := ho.1
  have hno : own s (ad s k i) = false := by
    rcases own_new ho.1 with ⟨h1, _⟩ | ⟨_, h2⟩
    · omega
    · exact h2
  have hb : bn (asS s k) (ad s k i) = false := by
    rw [← Bool.not_eq_true]; intro hb
    have := (h.born _ hb).1
    rw [hno] at this; cases this
  have hfr : fr (asS s k) (ad s k i) = false := by
    rw [fr_false]; intro j hj hm
    have := (h.free j hj _ hm).1
    rw [hno] at this; cases this
  refine ⟨?_, by show kAt (s.ks ++ [k]) (blk s.c (ad s k i)) = k; rw [ho.2]; exact hkl, ho.2⟩
  unfold handB
  rw [ho2, bnI_nat, frI_nat, hb, hfr]
  rfl
theorem ad_inj {s : St} (h : Wf s) {k i j : Nat} (hk : k < 4) (e : ad s k i = ad s k j) : i = j := by
  have e1 := ad_eq h k i
  have e2 := ad_eq h k j
  rw [e] at e1
  have e3 : adr s.c k s.ks.length i = adr s.c k s.ks.length j := e1.trans e2.symm
  unfold adr at e3
  have hs := siz_four (isB_true.2 ⟨Int.natCast_nonneg k, by omega⟩)
  rcases hs with e4 | e4 | e4 | e4 <;> rw [e4] at e3 <;> omega
/-- All of them but the first one. -/
def tl (s : St) (k : Nat) : List Nat := (List.range (perN s.c k - 1)).map fun i => ad s k (i + 1)
def tlZ (s : St) (k : Nat) : List Int := (tl s k).map fun n => ((n : Nat) : Int)
/-- What the first i of these leave, from the last one on. -/
def pu (s : St) (k i : Nat) : St := puL (asS s k) ((tl s k).reverse.take i)

theorem hsome {w : World} {base n cap : Nat} {p : Option Addr} {e : TypeId} {l : List Value} (h : w.ownsRow base e 1 (.slice p (n + 1) cap) (n + 1) l) : ∃ g, p = some ⟨g, 0, none⟩ := by
  obtain ⟨_, ⟨_, h3⟩ | ⟨g, c3, cur, e1, r3⟩⟩ := h
  · omega
  · cases e1; exact ⟨g, rfl⟩
/-- What room leaves when a block is assigned. -/
def roN (s : St) (k : Nat) : St := pu s k (tl s k).length

end Go.Proofs.YtipifkgmhgkleaaGreatDoor.Hp

namespace Go.Proofs.YtipifkgmhgkleaaGreatDoor.Hp
open Go.RowKit
open Class (isB isB_true isB_false is_any sizI sizI_bd roomI SizTab clsI clsI_bd)
open Blk (Cfg TbIs ownB ownB_true blk kAt adr perN perN_pos)
open Go.Proofs.YtipifkgmhgkleaaGreatDoor.Row (Chg)
open Lis (upd upd_same upd_other)
open Go.Proofs.YtipifkgmhgkleaaGreatDoor.Addr (Tabs)

theorem To.tabs {w w1 : World} {H : Nat} {d : Ids} {s s1 : St} {m m1 : Nat} (h : Is w H d s m) (hT : To w w1 H d s1 m1) (ht : Tabs w) : Tabs w1 := by
  obtain ⟨d1, h1, h2, h3⟩ := hT
  exact h.tabs h2 ht

/-- Which slot an object gets; what is there then. -/
def rmA (s : St) (k : Nat) : Nat := match s.hv k with | a :: _ => a | [] => ad s k 0
def rmS (s : St) (k : Nat) : St := match s.hv k with | _ :: l => { s with hv := upd s.hv k l } | [] => roN s k
def rmOk (s : St) (k : Nat) : Bool := !(s.hv k).isEmpty || decide ((s.ks.length : Int) < s.c.b)
theorem rm_hand {w : World} {H : Nat} {d : Ids} {s : St} {m k : Nat} (h : Is w H d s m) (hk : k < 4) (hr : rmOk s k = true) : handB (rmS s k) (rmA s k) = true ∧ cls (rmS s k) (rmA s k) = k := by
  cases he : s.hv k with
  | cons a l =>
    have e1 : rmA s k = a := by rw [rmA, he]
    have e2 : rmS s k = { s with hv := upd s.hv k l } := by rw [rmS, he]
    rw [e1, e2]
    obtain ⟨c1, c2, c3, c4⟩ := h.wf.free k hk a (by rw [he]; exact List.mem_cons_self ..)
    refine ⟨?_, c2⟩
    have hno : a ∉ l := by have := h.held.once k hk; rw [he] at this; exact (List.nodup_cons.1 this).1
    have hfr : fr { s with hv := upd s.hv k l } a = false := by
      rw [fr_false]
      intro j hj hm
      have hm' : a ∈ upd s.hv k l j := hm
      by_cases e : j = k
      · subst e; rw [upd_same] at hm'; exact hno hm'
      · rw [upd_other _ _ e] at hm'
        exact e (h.held.apart j k a hj hk hm' (by rw [he]; exact List.mem_cons_self ..))
    unfold handB
    rw [bnI_nat, frI_nat, hfr]
    have e3 : own { s with hv := upd s.hv k l } a = own s a := rfl
    have e4 : bn { s with hv := upd s.hv k l } a = bn s a := rfl
    rw [e3, e4, c1, c3]
    rfl
  | nil =>
    have e1 : rmA s k = ad s k 0 := by rw [rmA, he]
    have e2 : rmS s k = roN s k := by rw [rmS, he]
    have hf : (s.ks.length : Int) < s.c.b := by
      unfold rmOk at hr
      rw [he] at hr
      simpa using hr
    rw [e1, e2]
    obtain ⟨h1, h2, h3⟩ := ad_hand h.wf hk hf (perN_pos h.wf.right hk)
    refine ⟨puL_hand h1 _ (fun hm => ?_), ?_⟩
    · rw [List.take_of_length_le (by rw [List.length_reverse]; exact Nat.le_refl _), List.mem_reverse] at hm
      unfold tl at hm
      obtain ⟨j, _, e⟩ := List.mem_map.1 hm
      have := ad_inj h.wf hk e
      omega
    · obtain ⟨p1, p2, _⟩ := puL_c (asS s k) ((tl s k).reverse.take (tl s k).length)
      unfold roN pu cls
      rw [p1, p2]
      exact h2

/-- Fields laid 0. -/
def zr (s : St) (a : Nat) : Nat → St
  | 0 => s
  | j + 1 => stS (zr s a j) a j 0
theorem zr_rest (s : St) (a j : Nat) : (zr s a j).c = s.c ∧ (zr s a j).ks = s.ks ∧ (zr s a j).hv = s.hv ∧ (zr s a j).bs = s.bs ∧ (zr s a j).os = s.os ∧ (zr s a j).ce = s.ce ∧ (zr s a j).ws.length = s.ws.length := by
  induction j with
  | zero => exact ⟨rfl, rfl, rfl, rfl, rfl, rfl, rfl⟩
  | succ j ih =>
    obtain ⟨h1, h2, h3, h4, h5, h6, h7⟩ := ih
    exact ⟨h1, h2, h3, h4, h5, h6, by show ((zr s a j).ws.set _ _).length = _; rw [List.length_set]; exact h7⟩

/-- What Make tells, and leaves. -/
def mkE (s : St) (n c : Int) : Int := if 0 ≤ n ∧ n ≤ 15 then (if colB c = true then (if rmOk s (clsI n).toNat = true then 0 else 10) else 1) else 8
def mkA (s : St) (n : Int) : Nat := rmA s (clsI n).toNat
def mk2 (s : St) (n : Int) : St := beS (rmS s (clsI n).toNat) (mkA s n) n.toNat
def mkS (s : St) (n c : Int) : St := baS (zr (mk2 s n) (mkA s n) n.toNat) (mkA s n) c

end Go.Proofs.YtipifkgmhgkleaaGreatDoor.Hp

namespace Go.Proofs.YtipifkgmhgkleaaGreatDoor.Hp
open Go.RowKit
open Blk (Cfg)
open Go.Proofs.YtipifkgmhgkleaaGreatDoor.Row (Chg)
open Go.Proofs.YtipifkgmhgkleaaGreatDoor.Addr (Tabs)

def exH : Cfg := ⟨2, 16, 1, 1, 0, 1, 1⟩

end Go.Proofs.YtipifkgmhgkleaaGreatDoor.Hp

namespace Go.Proofs.YtipifkgmhgkleaaGreatDoor.Hp
open Go.RowKit
open Blk (Cfg BoxIs)
open Go.Proofs.YtipifkgmhgkleaaGreatDoor.Row (Chg)
open Go.Proofs.YtipifkgmhgkleaaGreatDoor.Addr (Tabs)

theorem puL_ce (s : St) (l : List Nat) : (puL s l).ce = s.ce ∧ (puL s l).bs = s.bs ∧ (puL s l).os = s.os := by
  induction l generalizing s with
  | nil => exact ⟨rfl, rfl, rfl⟩
  | cons a l ih => exact ih (puS s a)
theorem rmS_rest (s : St) (k : Nat) : (rmS s k).c = s.c ∧ (rmS s k).ce = s.ce ∧ (rmS s k).ws.length = s.ws.length ∧ (rmS s k).bs = s.bs ∧ (rmS s k).os = s.os := by
  unfold rmS
  split
  · exact ⟨rfl, rfl, rfl, rfl, rfl⟩
  · obtain ⟨p1, p2, p3⟩ := puL_c (asS s k) ((tl s k).reverse.take (tl s k).length)
    obtain ⟨q1, q2, q3⟩ := puL_ce (asS s k) ((tl s k).reverse.take (tl s k).length)
    exact ⟨p1, q1, p3, q2, q3⟩
theorem mkS_rest (s : St) (n c : Int) : (mkS s n c).c = s.c ∧ (mkS s n c).ce = s.ce ∧ (mkS s n c).ws.length = s.ws.length := by
  obtain ⟨h1, h2, h3, h4, h5⟩ := rmS_rest s (Class.clsI n).toNat
  obtain ⟨z1, z2, z3, z4, z5, z6, z7⟩ := zr_rest (mk2 s n) (mkA s n) n.toNat
  refine ⟨z1.trans h1, z6.trans h2, z7.trans ?_⟩
  show ((rmS s (Class.clsI n).toNat).ws.set _ _).length = _
  rw [List.length_set]; exact h3

/-- A heap above what lay, beside a config in its box. -/
structure Ce (w wr : World) (H : Nat) (dd : Ids) (s : St) (m : Nat) (d : Cfg) (n nc : Nat) : Prop where
  is : Is wr H dd s m
  hc : s.c = d
  hn : s.ws.length = n
  hl : s.ce.length = nc
  box : BoxIs wr w.heap.size d
  ge : ∀ k, Mine H dd k → w.heap.size < k
  bel : Below w.heap.size w wr
theorem Ce.step {w wr w' : World} {H : Nat} {dd : Ids} {s s' : St} {m m' : Nat} {d : Cfg} {n nc : Nat} (h : Ce w wr H dd s m d n nc) (hT : To wr w' H dd s' m') (h1 : s'.c = s.c) (h2 : s'.ce.length = s.ce.length) (h3 : s'.ws.length = s.ws.length) :
    ∃ dd', Ce w w' H dd' s' m' d n nc ∧ Chg (Mine H dd) wr w' ∧ ∀ j, Mine H dd' j → Mine H dd j ∨ wr.heap.size ≤ j := by
  obtain ⟨d', g1, g2, g3⟩ := hT
  have hb : Below (w.heap.size + 1) wr w' := g2.below (fun k hk => h.ge k hk) (by have := h.box.lt; omega)
  exact ⟨d', ⟨g1, h1.trans h.hc, h3.trans h.hn, h2.trans h.hl, h.box.below hb (Nat.lt_succ_self _), fun k hk => (g3 k hk).elim (h.ge k) (fun e => by have := h.box.lt; omega), h.bel.trans (hb.mono (Nat.le_succ _))⟩, g2, g3⟩
theorem Ce.tabs {w wr : World} {H : Nat} {dd : Ids} {s : St} {m : Nat} {d : Cfg} {n nc : Nat} (h : Ce w wr H dd s m d n nc) (ht : Tabs w) : Tabs wr := ht.later h.bel
/-- A row beside it. -/
structure Rw (wr : World) (H : Nat) (dd : Ids) (Rb : Nat) (rc : List Int) : Prop where
  at_ : ∀ t, t < rc.length → wr.cell? ⟨Rb, t, none⟩ = some (.int .i64 (rc.getD t 0))
  fz : ∀ t, t < rc.length → wr.frozen? ⟨Rb, t, none⟩ = false
  no : ¬ Mine H dd Rb
  lt : Rb < wr.heap.size
theorem Rw.step {wr w' : World} {H : Nat} {dd dd' : Ids} {Rb : Nat} {rc : List Int} (h : Rw wr H dd Rb rc) (hc : Chg (Mine H dd) wr w') (hR : ∀ j, Mine H dd' j → Mine H dd j ∨ wr.heap.size ≤ j) : Rw w' H dd' Rb rc :=
  ⟨fun t ht => (hc.cell (p := ⟨Rb, t, none⟩) h.lt h.no).trans (h.at_ t ht), fun t ht => (hc.frozen (p := ⟨Rb, t, none⟩) h.lt h.no).trans (h.fz t ht), fun e => (hR _ e).elim h.no (fun e => by have := h.lt; omega), Nat.lt_of_lt_of_le h.lt hc.size⟩
theorem Rw.lay {wr : World} {H : Nat} {dd : Ids} {Rb : Nat} {rc : List Int} (h : Rw wr H dd Rb rc) {t : Nat} (ht : t < rc.length) (v : Int) : Rw (wr.setCell ⟨Rb, t, none⟩ (.int .i64 v)) H dd Rb (rc.set t v) := by
  refine ⟨fun j hj => ?_, fun j hj => ?_, h.no, by rw [Row.size_setCell]; exact h.lt⟩
  · rw [List.length_set] at hj
    by_cases e : j = t
    · subst e
      rw [Row.same (h.at_ j hj)]
      simp [List.getD_eq_getElem?_getD, hj]
    · rw [Row.other (by first | (simp; done) | (simp; omega)), h.at_ j hj]
      simp [List.getD_eq_getElem?_getD, Ne.symm e]
  · rw [List.length_set] at hj
    rw [World.frozen?_setCell]; exact h.fz j hj
theorem Ce.laid {w wr : World} {H : Nat} {dd : Ids} {s : St} {m : Nat} {d : Cfg} {n nc : Nat} (h : Ce w wr H dd s m d n nc) {p : Addr} (hp : ¬ Mine H dd p.block) (hw : w.heap.size < p.block) (v : Value) : Ce w (wr.setCell p v) H dd s m d n nc :=
  have hb : Below (w.heap.size + 1) wr (wr.setCell p v) := (Below.refl _ _).setCell (by omega) _
  ⟨h.is.kept (fun k hk => Lis.heap_set (fun e => hp (e ▸ hk))) (by rw [Row.size_setCell]; exact Nat.le_refl _), h.hc, h.hn, h.hl, h.box.below hb (Nat.lt_succ_self _), h.ge, h.bel.trans (hb.mono (Nat.le_succ _))⟩
/-- The law's start: a new heap beside the config's box. -/
theorem Ce.start {w w1 w2 : World} {H : Nat} {dd : Ids} {d : Cfg} {n nc : Nat} (hb1 : Below w.heap.size w w1) (hbox : BoxIs w1 w.heap.size d) (hI : Is w2 H dd (st0 d n nc) 0) (hM : ∀ k, Mine H dd k → w1.heap.size ≤ k) (hb2 : Below w1.heap.size w1 w2) : Ce w w2 H dd (st0 d n nc) 0 d n nc :=
  ⟨hI, rfl, by show (List.replicate n 0 : List Nat).length = n; simp, by show (List.replicate nc (0 : Int)).length = nc; simp, hbox.later hb2, fun k hk => by have := hM k hk; have := hbox.lt; omega, hb1.trans (hb2.mono hb1.size)⟩
theorem Ce.later {w wr w' : World} {H : Nat} {dd : Ids} {s : St} {m : Nat} {d : Cfg} {n nc : Nat} (h : Ce w wr H dd s m d n nc) (hb : Below wr.heap.size wr w') : Ce w w' H dd s m d n nc :=
  ⟨h.is.later hb, h.hc, h.hn, h.hl, h.box.later hb, h.ge, h.bel.trans (hb.mono h.bel.size)⟩
end Go.Proofs.YtipifkgmhgkleaaGreatDoor.Hp
