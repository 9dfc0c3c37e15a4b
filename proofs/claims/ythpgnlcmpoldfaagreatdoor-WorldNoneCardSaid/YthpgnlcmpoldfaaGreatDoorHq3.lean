/-
  Texts of the heap, one behind the other: HpK HpL HpM HpN HpO.
-/
import Derived.Test.YthpgnlcmpoldfaaGreatDoorHq2
namespace Go.Proofs.YthpgnlcmpoldfaaGreatDoor.Hp
open Go.RowKit
open Class (isB isB_true isB_false is_any sizI sizI_bd roomI SizTab quiet_left below_drewN)
open Blk (Cfg TbIs ownB ownB_true blk kAt rowB BoxIs)
open Go.Proofs.YthpgnlcmpoldfaaGreatDoor.Row (Chg Rd)
open Arena (ArIs Two)
open Bits (SetIs)
open Lis (Sit Five Held LsIs upd upd_same upd_other set_kept lastN)
open Go.Proofs.YthpgnlcmpoldfaaGreatDoor.Addr (Tabs adrB adrB_true)

def zs (n : Nat) : List Nat := List.replicate ((n + 1 + 63) / 64) 0
/-- What a new heap has. -/
def st0 (c : Cfg) (n nc : Nat) : St := { c := c, ks := [], hv := fun _ => [], ws := List.replicate n 0, bs := zs n, os := zs n, ce := List.replicate nc 0 }
theorem wf0 {c : Cfg} {n nc : Nat} (hR : rightB c.b c.wd c.m c.r c.ce c.lg c.st = true) (hn : c.b * c.wd = (n : Int)) : Wf (st0 c n nc) := by
  have hRC := Blk.slots_bd hR
  refine ⟨hR, by show _ = ((List.replicate n 0).length : Int); rw [List.length_replicate]; exact hn, by show ((0 : Nat) : Int) ≤ c.b; have := hRC.b0; omega, fun k _ a ha => (by cases ha), fun a ha => ?_, fun a ho _ => ?_, fun j _ => Arena.wd_zero n j⟩
  · have : hasB (zs n) a = true := ha
    unfold zs at this
    rw [hasB_zero (n + 1) a] at this
    cases this
  · exact absurd (ownB_true.1 ho).2.1 (Nat.not_lt_zero _)

/-- Cells that are all 0. -/
def zeroInts (n : Nat) : Array Value := madeCells #[.int .i64 0] n
theorem zeroInts_at (n j : Nat) (h : j < n) : (zeroInts n)[j]? = some (.int .i64 0) := by
  unfold zeroInts
  have := toList_madeCells_one (.int .i64 0) n
  rw [← Array.getElem?_toList, this, List.getElem?_replicate]
  simp [h]
theorem make_ints (n : Nat) (h : n ≤ 1048576) (W : World) :
    (Instr.makeSlice 40 (.int .i64 (n : Int)) (.int .i64 (n : Int))).run Tryz.prog W = .ok (.slice (some ⟨W.heap.size, 0, none⟩) n n) (W.alloc (.cells (zeroInts n) 3)) := by
  obtain ⟨i, hi, hz, hs, hb⟩ := Row.info_parts Row.infoInt
  have hr := run_make (P := Tryz.prog) W 40 3 i (.int .i64 0) Tryz.underlying40 hi hz .i64 .i64 n n (by omega) (by omega) (by rw [hb]; omega) (by omega)
  simp only [Int.toNat_natCast, hs, Nat.mul_one] at hr
  exact hr

theorem new_bad (c : Cfg) (w : World) (ht : Tabs w) (hr : rightB c.b c.wd c.m c.r c.ce c.lg c.st = false) : Calls Tryz.prog 51 #[(.agg #[.int .i64 c.b, .int .i64 c.wd, .int .i64 c.m, .int .i64 c.r, .int .i64 c.ce, .int .i64 c.lg, .int .i64 c.st])] w fun e w' => e = .returned (.tuple #[.pointer none, .int .i64 1]) ∧ Below w.heap.size w w' := by
  have HT := Lib.hid ht.lim
  clear ht
  go_enter Tryz.func51, Tryz.ntmps51
  go_wp2_with (go_at_call 79; refine (right_any _ _ _ _ _ _ _ _ (HT.out.alloc _)).mono ?_; rintro e w' ⟨rfl, hb⟩; rw [hr])
  go_ret2
  exact ⟨rfl, ((Below.refl _ _).alloc (Nat.le_refl _) _).trans (hb.mono (by simp))⟩

theorem new_fin {w w1 w2 w3 w4 w5 w6 : World} {c : Cfg} {n nc A G T L I J B Bw O Ow : Nat} (hR : rightB c.b c.wd c.m c.r c.ce c.lg c.st = true) (hn : c.b * c.wd = (n : Int)) (hnc : nc ≤ 64) (htt : Tabs w) (hb1 : Below w.heap.size w w1)
    (hAr : ArIs w2 A G n (List.replicate n 0) 0 0) (hA1 : w1.heap.size ≤ A) (hG1 : w1.heap.size ≤ G) (hA2 : A < w2.heap.size) (hG2 : G < w2.heap.size) (hb2 : Below w1.heap.size w1 w2)
    (hT : TbIs w3 T w2.heap.size c [] none 0) (hb3 : Below w2.heap.size w2 w3)
    (hL : LsIs w4 L A T I w3.heap.size (fun _ => none) (fun _ => 0) (fun _ => [])) (hS : SetIs w4 I J (n + 1) ((n + 1 + 63) / 64) (zs n)) (hI1 : w3.heap.size ≤ I) (hJ1 : w3.heap.size ≤ J) (hI2 : I < L) (hJ2 : J < L) (hIJ : I ≠ J) (hL2 : L < w4.heap.size) (hb4 : Below w3.heap.size w3 w4)
    (hB : SetIs w5 B Bw (n + 1) ((n + 1 + 63) / 64) (zs n)) (hB1 : w4.heap.size ≤ B) (hBw1 : w4.heap.size ≤ Bw) (hB2 : B < w5.heap.size) (hBw2 : Bw < w5.heap.size) (hBB : B ≠ Bw) (hb5 : Below w4.heap.size w4 w5)
    (hO : SetIs w6 O Ow (n + 1) ((n + 1 + 63) / 64) (zs n)) (hO1 : w5.heap.size ≤ O) (hOw1 : w5.heap.size ≤ Ow) (hO2 : O < w6.heap.size) (hOw2 : Ow < w6.heap.size) (hOO : O ≠ Ow) (hb6 : Below w5.heap.size w5 w6) :
    ∃ d, Is ((w6.alloc (.cells (zeroInts nc) 3)).alloc (.cells #[.pointer (some ⟨A, 0, none⟩), .pointer (some ⟨T, 0, none⟩), .pointer (some ⟨L, 0, none⟩), .pointer (some ⟨B, 0, none⟩), .pointer (some ⟨O, 0, none⟩), .slice (some ⟨w6.heap.size, 0, none⟩) nc nc] 148)) (w6.heap.size + 1) d (st0 c n nc) 0 ∧
      (∀ k, Mine (w6.heap.size + 1) d k → w.heap.size ≤ k) ∧ Below w.heap.size w ((w6.alloc (.cells (zeroInts nc) 3)).alloc (.cells #[.pointer (some ⟨A, 0, none⟩), .pointer (some ⟨T, 0, none⟩), .pointer (some ⟨L, 0, none⟩), .pointer (some ⟨B, 0, none⟩), .pointer (some ⟨O, 0, none⟩), .slice (some ⟨w6.heap.size, 0, none⟩) nc nc] 148)) := by
  have s1 := hb1.size
  have s2 := hb2.size
  have s3 := hb3.size
  have s4 := hb4.size
  have s5 := hb5.size
  have s6 := hb6.size
  have t1 := hT.base
  have t2 := hT.ltB
  have hAG := hAr.ne
  have hlen : (List.replicate n 0 : List Nat).length = n := by simp
  have g1 := htt.lim.blk
  have g2 := htt.siz.blk
  generalize hW7 : w6.alloc (.cells (zeroInts nc) 3) = w7
  have hb7 : Below w6.heap.size w6 w7 := by rw [← hW7]; exact (Below.refl _ _).alloc (Nat.le_refl _) _
  have s7 : w7.heap.size = w6.heap.size + 1 := by rw [← hW7]; simp
  have hcel : ∀ j, j < nc → w7.cell? ⟨w6.heap.size, j, none⟩ = some (.int .i64 0) ∧ w7.frozen? ⟨w6.heap.size, j, none⟩ = false := fun j hj => by
    rw [← hW7]; exact ⟨by simp [zeroInts_at nc j hj], by simp⟩
  generalize hW8 : w7.alloc (.cells #[.pointer (some ⟨A, 0, none⟩), .pointer (some ⟨T, 0, none⟩), .pointer (some ⟨L, 0, none⟩), .pointer (some ⟨B, 0, none⟩), .pointer (some ⟨O, 0, none⟩), .slice (some ⟨w6.heap.size, 0, none⟩) nc nc] 148) = w8
  have hb8 : Below w7.heap.size w7 w8 := by rw [← hW8]; exact (Below.refl _ _).alloc (Nat.le_refl _) _
  have s8 : w8.heap.size = w7.heap.size + 1 := by rw [← hW8]; simp
  have hH : ∀ j v, (#[.pointer (some ⟨A, 0, none⟩), .pointer (some ⟨T, 0, none⟩), .pointer (some ⟨L, 0, none⟩), .pointer (some ⟨B, 0, none⟩), .pointer (some ⟨O, 0, none⟩), .slice (some ⟨w6.heap.size, 0, none⟩) nc nc] : Array Value)[j]? = some v → w8.cell? ⟨w6.heap.size + 1, j, none⟩ = some v := fun j v h => by
    rw [← hW8, ← s7, World.cell?_alloc_new]; exact h
  have b68 : Below w6.heap.size w6 w8 := hb7.trans (hb8.mono hb7.size)
  have b58 : Below w5.heap.size w5 w8 := hb6.trans (b68.mono hb6.size)
  have b48 : Below w4.heap.size w4 w8 := hb5.trans (b58.mono hb5.size)
  have b38 : Below w3.heap.size w3 w8 := hb4.trans (b48.mono hb4.size)
  have b28 : Below w2.heap.size w2 w8 := hb3.trans (b38.mono hb3.size)
  have b08 : Below w.heap.size w w8 := hb1.trans ((hb2.trans (b28.mono hb2.size)).mono hb1.size)
  have hmine : ∀ k, Mine (w6.heap.size + 1) (⟨A, G, T, L, I, J, B, Bw, O, Ow, w6.heap.size, n, (n + 1 + 63) / 64, 0, (n + 1 + 63) / 64, (n + 1 + 63) / 64, nc, w3.heap.size, w2.heap.size, fun _ => none, fun _ => 0, none, zs n, 0, 0⟩ : Ids) k → w.heap.size ≤ k := fun k hk => by
    rcases hk with e | e | e
    · unfold lo Lis.Own at e
      rcases e with e | e | e | e | e | ⟨i, _, e⟩
      · have : k = L := e; omega
      · have : k = A := e; omega
      · have : k = G := e; omega
      · have : k = I := e; omega
      · have : k = J := e; omega
      · cases e
    · unfold seven at e
      have : k = w6.heap.size + 1 ∨ k = T ∨ k = B ∨ k = Bw ∨ k = O ∨ k = Ow ∨ k = w6.heap.size := e
      omega
    · cases e
  refine ⟨⟨A, G, T, L, I, J, B, Bw, O, Ow, w6.heap.size, n, (n + 1 + 63) / 64, 0, (n + 1 + 63) / 64, (n + 1 + 63) / 64, nc, w3.heap.size, w2.heap.size, fun _ => none, fun _ => 0, none, zs n, 0, 0⟩, ?_, hmine, b08⟩
  refine ⟨⟨hL.later b48, hAr.below b28 hA2 hG2, ?_, (show Five L A G I J from ⟨by omega, by omega, by omega, by omega, hAG, by omega, by omega, by omega, by omega, hIJ⟩), by show G < _; omega, by show J < _; omega, (fun k _ g hg => by cases hg), by show w3.heap.size ≤ _; omega⟩, ?_, hT.later b38, ?_, ?_,
    hH 0 _ rfl, hH 1 _ rfl, hH 2 _ rfl, hH 3 _ rfl, hH 4 _ rfl, ?_, ?_, ?_, by show Bw < _; omega, by show Ow < _; omega, by show w6.heap.size < _; omega, ?_, ?_, ?_, by show w2.heap.size ≤ _; omega, ?_, ⟨Nat.le_refl _, Nat.le_refl _, fun _ _ => Nat.zero_le _⟩, ?_, wf0 hR hn⟩
  · show SetIs w8 I J ((List.replicate n 0 : List Nat).length + 1) _ _
    rw [hlen]; exact Lis.set_below hS b48 (by omega) (by omega)
  · exact Held.start n _ rfl
  · show SetIs w8 B Bw ((List.replicate n 0 : List Nat).length + 1) _ _
    rw [hlen]; exact Lis.set_below hB b58 hB2 hBw2
  · show SetIs w8 O Ow ((List.replicate n 0 : List Nat).length + 1) _ _
    rw [hlen]; exact Lis.set_below hO b68 hO2 hOw2
  · show w8.cell? _ = some (.slice (some ⟨w6.heap.size, 0, none⟩) (List.replicate nc (0 : Int)).length nc)
    rw [List.length_replicate]; exact hH 5 _ rfl
  · intro j hj
    have hj' : j < nc := by simpa [st0] using hj
    show w8.cell? ⟨w6.heap.size, j, none⟩ = some (.int .i64 ((List.replicate nc (0 : Int)).getD j 0))
    rw [hb8.cell (p := ⟨w6.heap.size, j, none⟩) (by show w6.heap.size < _; omega), (hcel j hj').1]
    simp [List.getD_eq_getElem?_getD, hj']
  · intro j hj
    have hj' : j < nc := by simpa [st0] using hj
    show w8.frozen? ⟨w6.heap.size, j, none⟩ = false
    rw [hb8.frozen (p := ⟨w6.heap.size, j, none⟩) (by show w6.heap.size < _; omega)]; exact (hcel j hj').2
  · show [w6.heap.size + 1, T, B, Bw, O, Ow, w6.heap.size].Nodup
    simp only [List.nodup_cons, List.mem_cons, List.not_mem_nil, or_false, not_or, List.nodup_nil, and_true, not_false_eq_true]
    omega
  · intro k hk e
    unfold lo Lis.Own at hk
    unfold seven at e
    have e' : k = w6.heap.size + 1 ∨ k = T ∨ k = B ∨ k = Bw ∨ k = O ∨ k = Ow ∨ k = w6.heap.size := e
    rcases hk with e | e | e | e | e | ⟨i, _, e⟩
    · have : k = L := e; omega
    · have : k = A := e; omega
    · have : k = G := e; omega
    · have : k = I := e; omega
    · have : k = J := e; omega
    · cases e
  · intro g hg; cases hg
  · intro k hk; have := hmine k hk; omega
  · show (List.replicate nc (0 : Int)).length ≤ nc ∧ (List.replicate nc (0 : Int)).length ≤ 64
    rw [List.length_replicate]; omega

set_option maxRecDepth 100000 in
set_option maxHeartbeats 4000000 in
theorem new_good (c : Cfg) (n nc : Nat) (w : World) (ht : Tabs w) (hR : rightB c.b c.wd c.m c.r c.ce c.lg c.st = true) (hn : c.b * c.wd = (n : Int)) (hnc : c.ce = (nc : Int)) :
    Calls Tryz.prog 51 #[(.agg #[.int .i64 c.b, .int .i64 c.wd, .int .i64 c.m, .int .i64 c.r, .int .i64 c.ce, .int .i64 c.lg, .int .i64 c.st])] w fun e w' => ∃ H d, e = .returned (.tuple #[.pointer (some ⟨H, 0, none⟩), .int .i64 0]) ∧ Is w' H d (st0 c n nc) 0 ∧ (∀ k, Mine H d k → w.heap.size ≤ k) ∧ Below w.heap.size w w' := by
  have hRC : RightC c.b c.wd c.m c.r c.ce c.lg c.st := Blk.slots_bd hR
  have HT := Lib.hid ht
  obtain ⟨p0, p1⟩ := hRC.words
  have hn1 : 1 ≤ n := by
    have h1 : 1 * 1 ≤ c.b * c.wd := Int.mul_le_mul hRC.b0 (by have := hRC.wd0; omega) (by decide) (by have := hRC.b0; omega)
    omega
  have hn2 : n ≤ 1048576 := by omega
  have hnc2 : nc ≤ 64 := by have := hRC.ce1; omega
  have HMI := Lib.hid (make_ints nc (by omega))
  have HRC := Lib.hid hRC
  have HR := Lib.hid hR
  have HN := Lib.hid hn
  have HNC := Lib.hid hnc
  clear ht hRC p0 p1 hR hn hnc
  go_enter Tryz.func51, Tryz.ntmps51
  go_wp2_with fail
  obtain ⟨w1, hw1⟩ : ∃ w1, w1 = w.alloc (.cells #[.int .i64 c.b, .int .i64 c.wd, .int .i64 c.m, .int .i64 c.r, .int .i64 c.ce, .int .i64 c.lg, .int .i64 c.st] 23) := ⟨_, rfl⟩
  rw [← hw1]
  have hb1 : Below w.heap.size w w1 := by rw [hw1]; exact (Below.refl _ _).alloc (Nat.le_refl _) _
  have hbox : BoxIs w1 w.heap.size c := by rw [hw1]; exact ⟨by simp, by simp, by simp, by simp, by simp, by simp, by simp⟩
  have hs1 : w1.heap.size = w.heap.size + 1 := by rw [hw1]; simp
  have HX := Lib.hid hbox
  have HB1 := Lib.hid hb1
  clear hw1 hb1 hbox
  refine (right_any _ _ _ _ _ _ _ w1 (HT.out.later HB1.out).lim).mono ?_
  rintro e w1a ⟨rfl, hb1a⟩
  rw [HR.out]
  have HB1a := Lib.hid hb1a
  have HXa := Lib.hid (HX.out.later hb1a)
  clear hb1a
  have c0 := HXa.out.b0
  have c1 := HXa.out.b1
  have c2 := HXa.out.b2
  have c3 := HXa.out.b3
  have c4 := HXa.out.b4
  have c5 := HXa.out.b5
  have c6 := HXa.out.b6
  go_wp2_with fail
  have HBa := Lib.hid (HB1.out.trans (HB1a.out.mono HB1.out.size))
  refine (words_yes _ _ _ _ _ _ _ _ (HT.out.later HBa.out).lim HRC.out HR.out).mono ?_
  rintro e w1b ⟨rfl, hb1b⟩
  rw [HN.out]
  have HBb := Lib.hid (HBa.out.trans (hb1b.mono HBa.out.size))
  have HXb := Lib.hid (HXa.out.later hb1b)
  clear hb1b c0 c1 c2 c3 c4 c5 c6
  go_wp2_with fail
  refine (Arena.new_good n _ hn1 hn2).mono ?_
  rintro e w2 ⟨A, G, rfl, hAr, hA1, hG1, hA2, hG2, hb2⟩
  have HAr := Lib.hid hAr
  have HB2 := Lib.hid hb2
  have HX2 := Lib.hid (HXb.out.later hb2)
  clear hAr hb2
  have c0 := HX2.out.b0
  have c1 := HX2.out.b1
  have c2 := HX2.out.b2
  have c3 := HX2.out.b3
  have c4 := HX2.out.b4
  have c5 := HX2.out.b5
  have c6 := HX2.out.b6
  go_wp2_with fail
  have HBc := Lib.hid (HBb.out.trans (HB2.out.mono HBb.out.size))
  refine (Blk.new_good c _ (HT.out.later HBc.out).lim HR.out).mono ?_
  rintro e w3 ⟨T, rfl, hT3, hb3⟩
  have HT3 := Lib.hid hT3
  have HB3 := Lib.hid hb3
  have HX3 := Lib.hid (HX2.out.later hb3)
  have HBd := Lib.hid (HBc.out.trans (hb3.mono HBc.out.size))
  clear hT3 hb3 c0 c1 c2 c3 c4 c5 c6
  go_wp2_with fail
  refine (Lis.new_good _ (HAr.out.below HB3.out hA2 hG2) (Nat.lt_of_lt_of_le hG2 HB3.out.size) HT3.out (HT.out.later HBd.out).lim HR.out (by rw [List.length_replicate]; exact HN.out.symm)).mono ?_
  rintro e w4 ⟨L, I, J, rfl, hL, hS, hI1, hJ1, hI2, hJ2, hIJ, hL2, hb4⟩
  rw [List.length_replicate] at hS
  have HL := Lib.hid hL
  have HS := Lib.hid hS
  have HB4 := Lib.hid hb4
  have HX4 := Lib.hid (HX3.out.later hb4)
  clear hL hS hb4
  go_wp2_with fail
  rw [show ((n : Int) + 1) = ((n + 1 : Nat) : Int) by omega]
  refine (Bits.new_good (n + 1) _ (by omega)).mono ?_
  rintro e w5 ⟨B, Bw, rfl, hB, hB1, hBw1, hB2, hBw2, hBB, hb5⟩
  have HBs := Lib.hid hB
  have HB5 := Lib.hid hb5
  have HX5 := Lib.hid (HX4.out.later hb5)
  clear hB hb5
  go_wp2_with fail
  rw [show ((n : Int) + 1) = ((n + 1 : Nat) : Int) by omega]
  refine (Bits.new_good (n + 1) _ (by omega)).mono ?_
  rintro e w6 ⟨O, Ow, rfl, hO, hO1, hOw1, hO2, hOw2, hOO, hb6⟩
  have HOs := Lib.hid hO
  have HB6 := Lib.hid hb6
  have HX6 := Lib.hid (HX5.out.later hb6)
  clear hO hb6
  have c4 := HX6.out.b4
  rw [HNC.out] at c4
  have hmk := HMI.out
  have HF := Lib.hid (new_fin (nc := nc) HR.out HN.out hnc2 HT.out HBb.out HAr.out hA1 hG1 hA2 hG2 HB2.out HT3.out HB3.out HL.out HS.out hI1 hJ1 hI2 hJ2 hIJ hL2 HB4.out HBs.out hB1 hBw1 hB2 hBw2 hBB HB5.out HOs.out hO1 hOw1 hO2 hOw2 hOO HB6.out)
  clear hA1 hG1 hA2 hG2 hI1 hJ1 hI2 hJ2 hIJ hL2 hB1 hBw1 hB2 hBw2 hBB hO1 hOw1 hO2 hOw2 hOO
  go_wp2_with fail
  go_ret2
  obtain ⟨d, h1, h2, h3⟩ := HF.out
  exact ⟨_, d, rfl, h1, h2, h3⟩
end Go.Proofs.YthpgnlcmpoldfaaGreatDoor.Hp

namespace Go.Proofs.YthpgnlcmpoldfaaGreatDoor.Hp
open Go.RowKit Go.Shelf
open Class (isB isB_true isB_false is_any sizI sizI_bd roomI SizTab quiet_left below_drewN)
open Blk (Cfg TbIs ownB ownB_true blk kAt adr perN perN_eq perN_pos perN_le cellsF BoxIs)
open Go.Proofs.YthpgnlcmpoldfaaGreatDoor.Row (Chg Rd Rd0 rowB)
open Arena (ArIs Two)
open Bits (SetIs)
open Lis (Sit Five Held LsIs upd upd_same upd_other set_kept lastN backward_told backward_fn encB idxB tellB)
open Go.Proofs.YthpgnlcmpoldfaaGreatDoor.Addr (Tabs adrB adrB_true)
attribute [local go_sem] Oper.semAt_some

/-- Slots put, one behind the other. -/
def puL (s : St) (l : List Nat) : St := l.foldl puS s
theorem puL_nil (s : St) : puL s [] = s := rfl
theorem puL_snoc (s : St) (l : List Nat) (a : Nat) : puL s (l ++ [a]) = puS (puL s l) a := by simp [puL]
theorem puS_hand {s : St} {a b : Nat} (hs : handB s b = true) (hne : a ≠ b) : handB (puS s a) b = true := by
  obtain ⟨h1, h2, h3⟩ := handB_parts hs
  rw [bnI_nat] at h2
  rw [frI_nat] at h3
  have e1 : own (puS s a) b = own s b := rfl
  have e2 : bn (puS s a) b = bn s b := rfl
  have e3 : fr (puS s a) b = false := by
    rw [fr_false] at h3 ⊢
    intro k hk hm
    have hm' : b ∈ upd s.hv (cls s a) (a :: s.hv (cls s a)) k := hm
    by_cases e : k = cls s a
    · rw [e, upd_same] at hm'
      rcases List.mem_cons.1 hm' with e2 | e2
      · exact hne e2.symm
      · rw [← e] at e2; exact h3 k hk e2
    · rw [upd_other _ _ e] at hm'; exact h3 k hk hm'
  unfold handB
  rw [e1, h1, bnI_nat, frI_nat, e2, h2, e3]
  rfl
theorem puL_hand {s : St} {b : Nat} (hs : handB s b = true) : ∀ (l : List Nat), b ∉ l → handB (puL s l) b = true := by
  intro l
  induction l generalizing s with
  | nil => intro _; exact hs
  | cons a l ih =>
    intro hb
    rw [List.mem_cons, not_or] at hb
    exact ih (puS_hand hs (fun e => hb.1 e.symm)) hb.2
theorem puE_hand {s : St} {a : Int} (hs : handB s a = true) : puE s a = 0 := by
  obtain ⟨h1, h2, h3⟩ := handB_parts hs
  rw [puE, h2, h1, h3]
  rfl
theorem puL_c (s : St) (l : List Nat) : (puL s l).c = s.c ∧ (puL s l).ks = s.ks ∧ (puL s l).ws.length = s.ws.length := by
  induction l generalizing s with
  | nil => exact ⟨rfl, rfl, rfl⟩
  | cons a l ih =>
    have := ih (puS s a)
    exact ⟨this.1, this.2.1, this.2.2.trans (by show (s.ws.set _ _).length = _; rw [List.length_set])⟩

/-- The slots of a block that was assigned last. -/
def ad (s : St) (k i : Nat) : Nat := (adr s.c k s.ks.length i).toNat
theorem ad_eq {s : St} (h : Wf s) (k i : Nat) : adr s.c k s.ks.length i = (ad s k i : Int) := by
  unfold ad
  have hRC := Blk.slots_bd h.right
  have : 0 ≤ adr s.c k s.ks.length i := by
    unfold adr
    have h1 : 0 ≤ (s.ks.length : Int) * s.c.wd := Int.mul_nonneg (by omega) (by have := hRC.wd0; omega)
    have h2 : 0 ≤ (i : Int) * sizI k := Int.mul_nonneg (by omega) (by unfold sizI; (repeat' split) <;> omega)
    omega
  omega
theorem ad_hand {s : St} (h : Wf s) {k i : Nat} (hk : k < 4) (hf : (s.ks.length : Int) < s.c.b) (hi : i < perN s.c k) : handB (asS s k) (ad s k i) = true ∧ cls (asS s k) (ad s k i) = k ∧ blk s.c (ad s k i) = s.ks.length := by
  have hkl : kAt (s.ks ++ [k]) s.ks.length = k := kAt_last
  have ho := Lis.own_adr2 (c := s.c) (ks := s.ks ++ [k]) (b := s.ks.length) (i := i) h.right (by simp) hf (by rw [hkl]; exact hk) (by rw [hkl]; exact hi)
  rw [hkl, ad_eq h] at ho
  have ho2 : own (asS s k) (ad s k i) = true := ho.1
  have hno : own s (ad s k i) = false := by
    rcases own_new ho.1 with ⟨h1, _⟩ | ⟨_, h2⟩
    · omega
    · exact h2
  have hb : bn (asS s k) (ad s k i) = false := by
    rw [← Bool.not_eq_true]; intro hb
    have := (h.born _ hb).1
    rw [hno] at this; cases this
  have hfr : fr (asS s k) (ad s k i) = false := by
    rw [fr_false]; intro j hj hm
    have := (h.free j hj _ hm).1
    rw [hno] at this; cases this
  refine ⟨?_, by show kAt (s.ks ++ [k]) (blk s.c (ad s k i)) = k; rw [ho.2]; exact hkl, ho.2⟩
  unfold handB
  rw [ho2, bnI_nat, frI_nat, hb, hfr]
  rfl
theorem ad_inj {s : St} (h : Wf s) {k i j : Nat} (hk : k < 4) (e : ad s k i = ad s k j) : i = j := by
  have e1 := ad_eq h k i
  have e2 := ad_eq h k j
  rw [e] at e1
  have e3 : adr s.c k s.ks.length i = adr s.c k s.ks.length j := e1.trans e2.symm
  unfold adr at e3
  have hs := siz_four (isB_true.2 ⟨Int.natCast_nonneg k, by omega⟩)
  rcases hs with e4 | e4 | e4 | e4 <;> rw [e4] at e3 <;> omega
/-- All of them but the first one. -/
def tl (s : St) (k : Nat) : List Nat := (List.range (perN s.c k - 1)).map fun i => ad s k (i + 1)
theorem tl_len (s : St) (k : Nat) : (tl s k).length = perN s.c k - 1 := by simp [tl]
def tlZ (s : St) (k : Nat) : List Int := (tl s k).map fun n => ((n : Nat) : Int)
/-- What the first i of these leave, from the last one on. -/
def pu (s : St) (k i : Nat) : St := puL (asS s k) ((tl s k).reverse.take i)
theorem tl_get {s : St} {k j : Nat} (hj : j < perN s.c k - 1) : (tl s k)[j]? = some (ad s k (j + 1)) := by
  unfold tl
  rw [List.getElem?_map, List.getElem?_range hj]
  rfl
theorem tl_at {s : St} {k i : Nat} (hi : i < (tl s k).length) : (tl s k).reverse[i]? = some (ad s k ((tl s k).length - 1 - i + 1)) := by
  rw [List.getElem?_reverse hi]
  have h1 := tl_len s k
  exact tl_get (by omega)
theorem tell_tl {s : St} {k i : Nat} (hi : i < (tl s k).length) : tellB (tlZ s k) i = (ad s k ((tl s k).length - 1 - i + 1) : Int) := by
  have h1 := tl_len s k
  unfold tellB tlZ
  rw [List.length_map, List.getD_eq_getElem?_getD, List.getElem?_map]
  rw [tl_get (by omega)]
  rfl
theorem pu_step {s : St} (h : Wf s) {k i : Nat} (hk : k < 4) (hf : (s.ks.length : Int) < s.c.b) (hi : i < (tl s k).length) :
    handB (pu s k i) (ad s k ((tl s k).length - 1 - i + 1)) = true ∧ pu s k (i + 1) = puS (pu s k i) (ad s k ((tl s k).length - 1 - i + 1)) := by
  have h1 := tl_len s k
  have hat := tl_at (s := s) (k := k) hi
  refine ⟨puL_hand (ad_hand h hk hf (by omega)).1 _ (fun hm => ?_), ?_⟩
  · obtain ⟨j, hj, e⟩ := List.mem_take_iff_getElem.1 hm
    rw [List.length_reverse] at hj
    have h2 := tl_at (s := s) (k := k) (i := j) (by omega)
    rw [List.getElem?_eq_getElem (by rw [List.length_reverse]; omega)] at h2
    have h3 := Option.some.inj h2
    rw [e] at h3
    have := ad_inj h hk h3
    omega
  · unfold pu
    rw [List.take_add_one, hat]
    exact puL_snoc _ _ _

theorem hsome {w : World} {base n cap : Nat} {p : Option Addr} {e : TypeId} {l : List Value} (h : w.ownsRow base e 1 (.slice p (n + 1) cap) (n + 1) l) : ∃ g, p = some ⟨g, 0, none⟩ := by
  obtain ⟨_, ⟨_, h3⟩ | ⟨g, c3, cur, e1, r3⟩⟩ := h
  · omega
  · cases e1; exact ⟨g, rfl⟩
/-- What room leaves when a block is assigned. -/
def roN (s : St) (k : Nat) : St := pu s k (tl s k).length

set_option maxRecDepth 100000 in
set_option maxHeartbeats 1000000 in
theorem room_take {H : Nat} {d : Ids} {s : St} {m : Nat} (k a : Nat) (l : List Nat) (w : World) (h : Is w H d s m) (hk : k < 4) (he : s.hv k = a :: l) :
    Calls Tryz.prog 121 #[.pointer (some ⟨H, 0, none⟩), .int .i64 k] w fun e w' => e = .returned (.tuple #[.int .i64 a, .int .i64 0]) ∧ To w w' H d { s with hv := upd s.hv k l } m := by
  have hb0 : Below w.heap.size w (w.alloc (.cells #[.pointer (some ⟨H, 0, none⟩)] 48)) := (Below.refl _ _).alloc (Nat.le_refl _) _
  have HB0 := Lib.hid hb0
  have HT := Lib.hid (take_good k a l _ (h.later hb0) hk he)
  clear h hb0
  refine (callsIn_wide (n := 5)).1 ?_
  refine callsIn_of_wp_marks Tryz.func121 rfl trivial ?_ rfl
  simp only [Tryz.ntmps121, List.size_toArray, List.length_cons, List.length_nil, Nat.reduceAdd, Nat.reduceSub, Array.replicate_succ, Array.replicate_zero, List.push_toArray, List.append_toArray, List.nil_append, List.cons_append]
  gi_wp2_with (refine ⟨trivial, ?_⟩; gi_at_call 160; refine (callsIn_wide.2 HT.out).mono ?_; rintro e w1 ⟨rfl, hT1⟩)
  exact ⟨_, results_tmp2 rfl _ _ _, rfl, To.alloc HB0.out hT1⟩
set_option maxRecDepth 100000 in
set_option maxHeartbeats 1000000 in
theorem room_full {H : Nat} {d : Ids} {s : St} {m : Nat} (k : Nat) (w : World) (h : Is w H d s m) (hk : k < 4) (he : s.hv k = []) (hf : (s.ks.length : Int) = s.c.b) :
    Calls Tryz.prog 121 #[.pointer (some ⟨H, 0, none⟩), .int .i64 k] w fun e w' => e = .returned (.tuple #[.int .i64 0, .int .i64 10]) ∧ To w w' H d s m := by
  have hb0 : Below w.heap.size w (w.alloc (.cells #[.pointer (some ⟨H, 0, none⟩)] 48)) := (Below.refl _ _).alloc (Nat.le_refl _) _
  have HB0 := Lib.hid hb0
  have HN := Lib.hid (show ¬ Mine H d w.heap.size from not_mine h (Nat.le_refl _))
  have HT := Lib.hid (take_none k _ (h.later hb0) hk he)
  have HA := Lib.hid (fun (w1 : World) (d1 : Ids) (hI : Is w1 H d1 s m) => assign_full (k : Nat) w1 hI (isB_true.2 ⟨by omega, by omega⟩) hf)
  clear h hb0
  refine (callsIn_wide (n := 5)).1 ?_
  refine callsIn_of_wp_marks Tryz.func121 rfl trivial ?_ rfl
  simp only [Tryz.ntmps121, List.size_toArray, List.length_cons, List.length_nil, Nat.reduceAdd, Nat.reduceSub, Array.replicate_succ, Array.replicate_zero, List.push_toArray, List.append_toArray, List.nil_append, List.cons_append]
  gi_wp2_with (refine ⟨trivial, ?_⟩; first
    | (gi_at_call 160; refine (callsIn_wide.2 HT.out).mono ?_; rintro e w1 ⟨rfl, hT1⟩; have hk1 := hT1.cell (p := ⟨w.heap.size, 0, none⟩) (v := .pointer (some ⟨H, 0, none⟩)) (by simp) HN.out; obtain ⟨d1, hI1, hC1, hR1⟩ := hT1; have HI1 := Lib.hid hI1; have HC1 := Lib.hid hC1; have HR1 := Lib.hid hR1; clear hI1 hC1 hR1)
    | (gi_at_call 161; refine (callsIn_wide.2 (HA.out _ _ HI1.out)).mono ?_; rintro e w2 ⟨rfl, hT2⟩))
  exact ⟨_, results_tmp2 rfl _ _ _, rfl, To.alloc HB0.out (To.step HC1.out HR1.out hT2)⟩
set_option maxRecDepth 100000 in
set_option maxHeartbeats 4000000 in
theorem room_new {H : Nat} {d : Ids} {s : St} {m : Nat} (k : Nat) (w : World) (h : Is w H d s m) (ht : Tabs w) (hm : m < 800000) (hk : k < 4) (he : s.hv k = []) (hf : (s.ks.length : Int) < s.c.b) :
    Calls Tryz.prog 121 #[.pointer (some ⟨H, 0, none⟩), .int .i64 k] w fun e w' => e = .returned (.tuple #[.int .i64 (ad s k 0), .int .i64 0]) ∧ To w w' H d (roN s k) (m + 128) := by
  have hb0 : Below w.heap.size w (w.alloc (.cells #[.pointer (some ⟨H, 0, none⟩)] 48)) := (Below.refl _ _).alloc (Nat.le_refl _) _
  have HB0 := Lib.hid hb0
  have HWF := Lib.hid h.wf
  have HH := Lib.hid h
  have HTB := Lib.hid (ht.later hb0)
  have HN := Lib.hid (show ¬ Mine H d w.heap.size from not_mine h (Nat.le_refl _))
  have HT := Lib.hid (take_none k _ (h.later hb0) hk he)
  have HA := Lib.hid (fun (w1 : World) (d1 : Ids) (hI : Is w1 H d1 s m) ht => assign_good k w1 hI ht hk hf)
  have hN1 : 1 ≤ perN s.c k := perN_pos h.wf.right hk
  have hN2 : perN s.c k ≤ 128 := perN_le s.c k
  obtain ⟨N, hN⟩ : ∃ N, perN s.c k = N + 1 := ⟨perN s.c k - 1, by omega⟩
  have hcl : ∀ j, j < N + 1 → (cellsF (adr s.c k s.ks.length) (N + 1))[j]? = some (.int .i64 (ad s k j)) := fun j hj => by
    rw [cellsF, List.getElem?_map, List.getElem?_range hj]
    show some (Value.int .i64 (adr s.c k s.ks.length j)) = _
    rw [ad_eq h.wf]
  have HCL := Lib.hid hcl
  rw [hN] at HA
  clear h ht hb0 hcl
  refine (callsIn_wide (n := 5)).1 ?_
  refine callsIn_of_wp_marks Tryz.func121 rfl trivial ?_ rfl
  simp only [Tryz.ntmps121, List.size_toArray, List.length_cons, List.length_nil, Nat.reduceAdd, Nat.reduceSub, Array.replicate_succ, Array.replicate_zero, List.push_toArray, List.append_toArray, List.nil_append, List.cons_append]
  gi_wp2_with (refine ⟨trivial, ?_⟩; first
    | (gi_at_call 160; refine (callsIn_wide.2 HT.out).mono ?_; rintro e w1 ⟨rfl, hT1⟩; have hk1 := hT1.cell (p := ⟨w.heap.size, 0, none⟩) (v := .pointer (some ⟨H, 0, none⟩)) (by simp) HN.out; obtain ⟨d1, hI1, hC1, hR1⟩ := hT1; have HT1 := Lib.hid ((HH.out.later HB0.out).tabs hC1 HTB.out); have HI1 := Lib.hid hI1; have HC1 := Lib.hid hC1; have HR1 := Lib.hid hR1; clear hI1 hC1 hR1)
    | (gi_at_call 161; refine (callsIn_wide.2 (HA.out _ _ HI1.out HT1.out)).mono ?_; rintro e w2 ⟨p, cap, d2, rfl, ho2, hI2, hC2, hR2, hp2⟩; have hk2' := (hC2.cell (p := ⟨w.heap.size, 0, none⟩) (World.block_lt_of_cell? w1 _ hk1) (fun e => (HR1.out _ e).elim HN.out (fun e => by simp at e; omega))).trans hk1; have HT12 := Lib.hid (HI1.out.tabs hC2 HT1.out); have hcp := Row.owns_cap ho2; obtain ⟨g, rfl⟩ : ∃ g, p = some ⟨g, 0, none⟩ := hsome ho2))
  case inl =>
    refine ⟨trivial, ?_⟩
    gi_at_call 162
    refine (callsIn_wide.2 (backward_fn _ _ _ _)).mono ?_
    rintro e w3 ⟨rfl, rfl⟩
    gi_wp2
    generalize hX : World.alloc _ _ = X
    have bX : Below w2.heap.size w2 X := by rw [← hX]; exact (Below.refl _ _).alloc (Nat.le_refl _) _
    have hsX : X.heap.size = w2.heap.size + 1 := by rw [← hX]; simp
    have xs : Boxed X w2.heap.size 40 (.slice (some ⟨g, 0, none⟩) N 0) := by rw [← hX]; exact Boxed.new _ _ _
    have hg2 : g < w2.heap.size := (Row.owns_lt ho2 (g := g) rfl).2
    have hgm : ¬ Mine H d2 g := hp2 g rfl
    have hcell : ∀ j, j < N + 1 → X.cell? ⟨g, j, none⟩ = some (.int .i64 (ad s k j)) := fun j hj => (bX.cell (p := ⟨g, j, none⟩) hg2).trans (Row.owns_cell ho2 j _ (HCL.out j hj))
    have hbx : ¬ Mine H d2 w.heap.size := fun e => (hR2 _ e).elim (fun e => (HR1.out _ e).elim HN.out (fun e => by simp at e; omega)) (fun e => by have := HC1.out.size; simp at this; omega)
    have hk2 : X.cell? ⟨w.heap.size, 0, none⟩ = some (.pointer (some ⟨H, 0, none⟩)) := (bX.cell (p := ⟨w.heap.size, 0, none⟩) (World.block_lt_of_cell? w2 _ hk2')).trans hk2'
    have hbs : ¬ Mine H d2 w2.heap.size := fun e => by have := hI2.lt e; omega
    have HI2 := Lib.hid (hI2.later bX)
    have HT2 : Hid (∀ Y : World, Chg (fun j => Mine H d2 j ∨ X.heap.size ≤ j) X Y → Tabs Y) := Lib.hid fun Y hc => by
      have hb : Below (max 0 2 + 1) X Y := hc.below (fun j hj => hj.elim (fun e => by have := (HI2.out).hi j e; omega) (fun e => by have := (HI2.out).hi H (.inr (.inl (.inl rfl))); have := (HI2.out).ltH; omega)) (by have := (HI2.out).hi H (.inr (.inl (.inl rfl))); have := (HI2.out).ltH; omega)
      exact ((HT12.out).later bX).below hb (by omega) (by omega)
    have HK : Hid (∀ Y : World, Chg (fun j => Mine H d2 j ∨ X.heap.size ≤ j) X Y → Y.cell? ⟨w.heap.size, 0, none⟩ = some (.pointer (some ⟨H, 0, none⟩)) ∧ Y.cell? ⟨w2.heap.size, 0, none⟩ = some (.slice (some ⟨g, 0, none⟩) N 0) ∧ (∀ j, j < N + 1 → Y.cell? ⟨g, j, none⟩ = some (.int .i64 (ad s k j))) ∧ Rd0 Y (some ⟨g, 0, none⟩) (tlZ s k)) := Lib.hid fun Y hc => by
      have cg : ∀ j, j < N + 1 → Y.cell? ⟨g, j, none⟩ = some (.int .i64 (ad s k j)) := fun j hj => (hc.cell (p := ⟨g, j, none⟩) (by show g < _; omega) (fun e => e.elim hgm (fun e => by have e' : X.heap.size ≤ g := e; omega))).trans (hcell j hj)
      refine ⟨(hc.cell (p := ⟨w.heap.size, 0, none⟩) (World.block_lt_of_cell? X _ hk2) (fun e => e.elim hbx (fun e => by have := World.block_lt_of_cell? X _ hk2; simp only at this e; omega))).trans hk2, (hc.cell (p := ⟨w2.heap.size, 0, none⟩) (by show w2.heap.size < _; omega) (fun e => e.elim hbs (fun e => by simp only at e; omega))).trans xs.cell, cg, fun j hj => ?_⟩
      have hl := tl_len s k
      have hj' : j < N := by rw [tlZ, List.length_map] at hj; omega
      omega
    have HC12 := Lib.hid (show Chg (Mine H d) w X ∧ ∀ j, Mine H d2 j → Mine H d j ∨ w.heap.size ≤ j from
      ⟨((Chg.of_below HB0.out).trans ((HC1.out.trans hC2 HR1.out).trans (Chg.of_below (S := Mine H d) bX) (fun _ e => .inl e)) (fun _ e => .inl e)), fun j hj => (hR2 j hj).elim (fun e => (HR1.out j e).imp id (fun e => by simp at e; omega)) (fun e => .inr (by have := HC1.out.size; simp at this; omega))⟩)
    have hpu0 : pu s k 0 = asS s k := rfl
    have HLT := Lib.hid (show ∀ j, Mine H d2 j → j < X.heap.size from fun j hj => (HI2.out).lt hj)
    have hsz0 : w.heap.size ≤ X.heap.size := HC12.out.1.size
    clear hX xs hg2 hgm hcell hbx hk2 hbs hk2' hk1 ho2 hC2 hR2 hp2 hI2 bX HCL HN HA
    refine wpIn_rangeFunc_told rfl (by decide) (gf := 219) (lb := #[.pointer (some ⟨w2.heap.size, 0, none⟩)]) rfl trivial (enters_of Tryz.func219 (by kernel_rfl) rfl)
      (T := fun W => W.cell? ⟨w2.heap.size, 0, none⟩ = some (.slice (some ⟨g, 0, none⟩) (tlZ s k).length 0) ∧ Rd0 W (some ⟨g, 0, none⟩) (tlZ s k)) (N := (tlZ s k).length) (backward_told 4 w2.heap.size (some ⟨g, 0, none⟩) 0 (tlZ s k) (by rw [tlZ, List.length_map, tl_len]; omega) X) (Below.refl _ _) (fun _ => rfl)
      (fun O i Y => ∃ d', Is Y H d' (pu s k i) (m + i) ∧ X.heap.size ≤ Y.heap.size ∧ Chg (fun j => Mine H d2 j ∨ X.heap.size ≤ j) X Y ∧ (∀ j, Mine H d' j → Mine H d2 j ∨ X.heap.size ≤ j) ∧ ∀ j, Mine H d' j → X.heap.size ≤ j → O j)
      (fun _ _ _ _ => False)
      ?hI ?hIx ?hT ?h0
      (fun i => { tmps := #[.pointer (some ⟨H, 0, none⟩), .int .i64 k, .pointer (some ⟨w.heap.size, 0, none⟩), undef, .int .i64 0, .int .i64 0, .int .i64 0, .int .i64 12, .slice (some ⟨g, 0, none⟩) (N + 1) 1, .int .i64 0, undef, .int .i64 (tellB (tlZ s k) i), .tuple #[.int .i64 0, .int .i64 12], .pointer (some ⟨H, 0, none⟩), .int .i64 k, .tuple #[.int .i64 0, .int .i64 12], .int .i64 0, .int .i64 12, .int .i64 12, .bool false, undef, .tuple #[.slice (some ⟨g, 0, none⟩) (N + 1) 1, .int .i64 0], .pointer (some ⟨H, 0, none⟩), .int .i64 k, .tuple #[.slice (some ⟨g, 0, none⟩) (N + 1) 1, .int .i64 0], .slice (some ⟨g, 0, none⟩) (N + 1) 1, .int .i64 0, .int .i64 0, .bool false, undef, .slice (some ⟨g, 0, none⟩) (N + 1) 1, .slice (some ⟨g, 0, none⟩) N 0, .func (.func 219) #[] #[.pointer (some ⟨w2.heap.size, 0, none⟩)], .int .i64 (idxB (tlZ s k) i), .int .i64 (tellB (tlZ s k) i), undef, undef, undef, undef, undef, undef], defers := [] }) ?assign ?body ?done ?stop
    case hI =>
      rintro O i X' Y ⟨d', h1, h2, h3, h4, h5⟩ hb hk
      refine ⟨d', h1.kept (fun j hj => ?_) ?_, Nat.le_trans h2 hb.size, h3.trans (T := fun j => X.heap.size ≤ j) ⟨hb.os, hb.tape, hb.output, hb.size, fun j _ hn => hb.block j (by omega)⟩ (fun j e => .inl (.inr e)), h4, h5⟩
      · by_cases e : j < X.heap.size
        · exact hb.block j e
        · exact hk j (h5 j hj (by omega))
      · exact hb.size
    case hIx => rintro _ _ _ _ _ e; exact e.elim
    case hT =>
      rintro O i Y ⟨d', h1, h2, h3, h4, h5⟩
      obtain ⟨a1, a2, a3, a4⟩ := HK.out Y h3
      exact ⟨by rw [a2, tlZ, List.length_map, tl_len, hN]; rfl, a4⟩
    case h0 => exact ⟨fun _ => False, ⟨d2, by rw [hpu0]; exact HI2.out, Nat.le_refl _, Chg.refl _ _, fun j hj => .inl hj, fun j hj e => by have := HLT.out j hj; omega⟩, fun j hj => hj.elim⟩
    case assign =>
      intro l i Y K hi hK
      unfold encB
      gi_wp2
      exact hK
    case body =>
      rintro l' O i Y _ _ hi ⟨d', h1, h2, h3, h4, h5⟩ hlt _
      have hi2 : i < (tl s k).length := by rw [tlZ, List.length_map] at hi; exact hi
      have hil : i < 128 := by rw [tl_len] at hi2; omega
      obtain ⟨a1, a2, a3, a4⟩ := HK.out Y h3
      have hty := tell_tl (s := s) (k := k) hi2
      obtain ⟨hh, hst⟩ := pu_step HWF.out hk hf hi2
      have hput := put_any (tellB (tlZ s k) i) Y h1 (HT2.out Y h3) (by omega)
      rw [hty, puE_hand hh, if_pos rfl, Int.toNat_natCast, ← hst, ← hty] at hput
      have HP := Lib.hid hput
      have HF : Hid (∀ Y' : World, To Y Y' H d' (pu s k (i + 1)) (m + i + 1) → ∃ O', Turn X.heap.size O O' Y Y' ∧ ∃ d', Is Y' H d' (pu s k (i + 1)) (m + (i + 1)) ∧ X.heap.size ≤ Y'.heap.size ∧ Chg (fun j => Mine H d2 j ∨ X.heap.size ≤ j) X Y' ∧ (∀ j, Mine H d' j → Mine H d2 j ∨ X.heap.size ≤ j) ∧ ∀ j, Mine H d' j → X.heap.size ≤ j → O' j) := Lib.hid fun Y' ⟨d3, b1, b2, b3⟩ => by
        refine ⟨fun j => Mine H d3 j ∧ X.heap.size ≤ j, ⟨b2.size, fun j c1 c2 c3 => b2.block j c2 (fun e => c3 (h5 j e c1)), fun j hj => (b3 j hj.1).imp (fun e => h5 j e hj.2) id, fun j hj => b1.lt hj.1⟩, d3, b1, Nat.le_trans h2 b2.size, h3.trans b2 (fun j e => (h4 j e).imp (fun e => e) id |>.elim (fun e => .inl (.inl e)) (fun e => .inl (.inr e))), fun j hj => (b3 j hj).elim (h4 j) (fun e => .inr (by omega)), fun j hj e => ⟨hj, e⟩⟩
      clear h1 h2 h3 h4 h5 hput hh hst hty a2 a3 a4 hlt
      gi_wp2_with (refine ⟨trivial, ?_⟩; gi_at_call 163; refine (callsIn_wide.2 HP.out).mono ?_; rintro e Y' ⟨rfl, hT3⟩)
      exact HF.out _ hT3
    case done =>
      rintro D O Y hD ⟨d', h1, h2, h3, h4, h5⟩ hn hlt hK
      obtain ⟨a1, a2, a3, a4⟩ := HK.out Y h3
      have a0 := a3 0 (by omega)
      have hl := tl_len s k
      have hlz : (tlZ s k).length = (tl s k).length := by rw [tlZ, List.length_map]
      have hDm : ¬ Mine H d' D := fun e => hn (h5 D e hD)
      have hfin : To w (Y.putObj D (.deferred none)) H d (roN s k) (m + 128) := by
        have e1 : Is (Y.putObj D (.deferred none)) H d' (pu s k (tlZ s k).length) (m + (tlZ s k).length) := h1.kept (fun j hj => World.putObj_heap_other (fun e => hDm (e ▸ hj))) (by simp)
        rw [hlz] at e1
        refine ⟨d', e1.more (by omega), ?_, fun j hj => (h4 j hj).elim (HC12.out.2 j) (fun e => .inr (by omega))⟩
        have c1 : Chg (Mine H d) w Y := HC12.out.1.trans h3 (fun j e => e.elim (HC12.out.2 j) (fun e => .inr (by omega)))
        exact c1.trans (T := fun j => w.heap.size ≤ j) ⟨rfl, rfl, rfl, by simp, fun j _ hj => World.putObj_heap_other (fun e => hj (by omega))⟩ (fun j e => .inr e)
      have HF := Lib.hid hfin
      clear h1 h2 h3 h4 h5 hfin a1 a2 a3 a4
      gi_wp2
      refine ⟨by simp, .inl ⟨_, _, rfl, run_takeDeferred hK, ?_⟩⟩
      exact ⟨_, results_tmp2 rfl _ _ _, rfl, HF.out⟩
    case stop => rintro D cc O i Y hD hi e; exact e.elim
  case inr =>
    refine ⟨trivial, ?_⟩
    gi_at_call 162
    refine (callsIn_wide.2 (backward_fn _ _ _ _)).mono ?_
    rintro e w3 ⟨rfl, rfl⟩
    gi_wp2
    generalize hX : World.alloc _ _ = X
    have bX : Below w2.heap.size w2 X := by rw [← hX]; exact (Below.refl _ _).alloc (Nat.le_refl _) _
    have hsX : X.heap.size = w2.heap.size + 1 := by rw [← hX]; simp
    have xs : Boxed X w2.heap.size 40 (.slice (some ⟨g, 1, none⟩) N (cap - 1)) := by rw [← hX]; exact Boxed.new _ _ _
    have hg2 : g < w2.heap.size := (Row.owns_lt ho2 (g := g) rfl).2
    have hgm : ¬ Mine H d2 g := hp2 g rfl
    have hcell : ∀ j, j < N + 1 → X.cell? ⟨g, j, none⟩ = some (.int .i64 (ad s k j)) := fun j hj => (bX.cell (p := ⟨g, j, none⟩) hg2).trans (Row.owns_cell ho2 j _ (HCL.out j hj))
    have hbx : ¬ Mine H d2 w.heap.size := fun e => (hR2 _ e).elim (fun e => (HR1.out _ e).elim HN.out (fun e => by simp at e; omega)) (fun e => by have := HC1.out.size; simp at this; omega)
    have hk2 : X.cell? ⟨w.heap.size, 0, none⟩ = some (.pointer (some ⟨H, 0, none⟩)) := (bX.cell (p := ⟨w.heap.size, 0, none⟩) (World.block_lt_of_cell? w2 _ hk2')).trans hk2'
    have hbs : ¬ Mine H d2 w2.heap.size := fun e => by have := hI2.lt e; omega
    have HI2 := Lib.hid (hI2.later bX)
    have HT2 : Hid (∀ Y : World, Chg (fun j => Mine H d2 j ∨ X.heap.size ≤ j) X Y → Tabs Y) := Lib.hid fun Y hc => by
      have hb : Below (max 0 2 + 1) X Y := hc.below (fun j hj => hj.elim (fun e => by have := (HI2.out).hi j e; omega) (fun e => by have := (HI2.out).hi H (.inr (.inl (.inl rfl))); have := (HI2.out).ltH; omega)) (by have := (HI2.out).hi H (.inr (.inl (.inl rfl))); have := (HI2.out).ltH; omega)
      exact ((HT12.out).later bX).below hb (by omega) (by omega)
    have HK : Hid (∀ Y : World, Chg (fun j => Mine H d2 j ∨ X.heap.size ≤ j) X Y → Y.cell? ⟨w.heap.size, 0, none⟩ = some (.pointer (some ⟨H, 0, none⟩)) ∧ Y.cell? ⟨w2.heap.size, 0, none⟩ = some (.slice (some ⟨g, 1, none⟩) N (cap - 1)) ∧ (∀ j, j < N + 1 → Y.cell? ⟨g, j, none⟩ = some (.int .i64 (ad s k j))) ∧ Rd0 Y (some ⟨g, 1, none⟩) (tlZ s k)) := Lib.hid fun Y hc => by
      have cg : ∀ j, j < N + 1 → Y.cell? ⟨g, j, none⟩ = some (.int .i64 (ad s k j)) := fun j hj => (hc.cell (p := ⟨g, j, none⟩) (by show g < _; omega) (fun e => e.elim hgm (fun e => by have e' : X.heap.size ≤ g := e; omega))).trans (hcell j hj)
      refine ⟨(hc.cell (p := ⟨w.heap.size, 0, none⟩) (World.block_lt_of_cell? X _ hk2) (fun e => e.elim hbx (fun e => by have := World.block_lt_of_cell? X _ hk2; simp only at this e; omega))).trans hk2, (hc.cell (p := ⟨w2.heap.size, 0, none⟩) (by show w2.heap.size < _; omega) (fun e => e.elim hbs (fun e => by simp only at e; omega))).trans xs.cell, cg, fun j hj => ?_⟩
      have hl := tl_len s k
      have hj' : j < N := by rw [tlZ, List.length_map] at hj; omega
      refine ⟨g, 1, rfl, ?_⟩
      rw [show 1 + j = j + 1 by omega, cg (j + 1) (by omega)]
      rw [tlZ, List.getD_eq_getElem?_getD, List.getElem?_map, tl_get (by omega)]
      rfl
    have HC12 := Lib.hid (show Chg (Mine H d) w X ∧ ∀ j, Mine H d2 j → Mine H d j ∨ w.heap.size ≤ j from
      ⟨((Chg.of_below HB0.out).trans ((HC1.out.trans hC2 HR1.out).trans (Chg.of_below (S := Mine H d) bX) (fun _ e => .inl e)) (fun _ e => .inl e)), fun j hj => (hR2 j hj).elim (fun e => (HR1.out j e).imp id (fun e => by simp at e; omega)) (fun e => .inr (by have := HC1.out.size; simp at this; omega))⟩)
    have hpu0 : pu s k 0 = asS s k := rfl
    have HLT := Lib.hid (show ∀ j, Mine H d2 j → j < X.heap.size from fun j hj => (HI2.out).lt hj)
    have hsz0 : w.heap.size ≤ X.heap.size := HC12.out.1.size
    clear hX xs hg2 hgm hcell hbx hk2 hbs hk2' hk1 ho2 hC2 hR2 hp2 hI2 bX HCL HN HA
    refine wpIn_rangeFunc_told rfl (by decide) (gf := 219) (lb := #[.pointer (some ⟨w2.heap.size, 0, none⟩)]) rfl trivial (enters_of Tryz.func219 (by kernel_rfl) rfl)
      (T := fun W => W.cell? ⟨w2.heap.size, 0, none⟩ = some (.slice (some ⟨g, 1, none⟩) (tlZ s k).length (cap - 1)) ∧ Rd0 W (some ⟨g, 1, none⟩) (tlZ s k)) (N := (tlZ s k).length) (backward_told 4 w2.heap.size (some ⟨g, 1, none⟩) (cap - 1) (tlZ s k) (by rw [tlZ, List.length_map, tl_len]; omega) X) (Below.refl _ _) (fun _ => rfl)
      (fun O i Y => ∃ d', Is Y H d' (pu s k i) (m + i) ∧ X.heap.size ≤ Y.heap.size ∧ Chg (fun j => Mine H d2 j ∨ X.heap.size ≤ j) X Y ∧ (∀ j, Mine H d' j → Mine H d2 j ∨ X.heap.size ≤ j) ∧ ∀ j, Mine H d' j → X.heap.size ≤ j → O j)
      (fun _ _ _ _ => False)
      ?hI ?hIx ?hT ?h0
      (fun i => { tmps := #[.pointer (some ⟨H, 0, none⟩), .int .i64 k, .pointer (some ⟨w.heap.size, 0, none⟩), undef, .int .i64 0, .int .i64 0, .int .i64 0, .int .i64 12, .slice (some ⟨g, 0, none⟩) (N + 1) cap, .int .i64 0, undef, .int .i64 (tellB (tlZ s k) i), .tuple #[.int .i64 0, .int .i64 12], .pointer (some ⟨H, 0, none⟩), .int .i64 k, .tuple #[.int .i64 0, .int .i64 12], .int .i64 0, .int .i64 12, .int .i64 12, .bool false, undef, .tuple #[.slice (some ⟨g, 0, none⟩) (N + 1) cap, .int .i64 0], .pointer (some ⟨H, 0, none⟩), .int .i64 k, .tuple #[.slice (some ⟨g, 0, none⟩) (N + 1) cap, .int .i64 0], .slice (some ⟨g, 0, none⟩) (N + 1) cap, .int .i64 0, .int .i64 0, .bool false, undef, .slice (some ⟨g, 0, none⟩) (N + 1) cap, .slice (some ⟨g, 1, none⟩) N (cap - 1), .func (.func 219) #[] #[.pointer (some ⟨w2.heap.size, 0, none⟩)], .int .i64 (idxB (tlZ s k) i), .int .i64 (tellB (tlZ s k) i), undef, undef, undef, undef, undef, undef], defers := [] }) ?assign ?body ?done ?stop
    case hI =>
      rintro O i X' Y ⟨d', h1, h2, h3, h4, h5⟩ hb hk
      refine ⟨d', h1.kept (fun j hj => ?_) ?_, Nat.le_trans h2 hb.size, h3.trans (T := fun j => X.heap.size ≤ j) ⟨hb.os, hb.tape, hb.output, hb.size, fun j _ hn => hb.block j (by omega)⟩ (fun j e => .inl (.inr e)), h4, h5⟩
      · by_cases e : j < X.heap.size
        · exact hb.block j e
        · exact hk j (h5 j hj (by omega))
      · exact hb.size
    case hIx => rintro _ _ _ _ _ e; exact e.elim
    case hT =>
      rintro O i Y ⟨d', h1, h2, h3, h4, h5⟩
      obtain ⟨a1, a2, a3, a4⟩ := HK.out Y h3
      exact ⟨by rw [a2, tlZ, List.length_map, tl_len, hN]; rfl, a4⟩
    case h0 => exact ⟨fun _ => False, ⟨d2, by rw [hpu0]; exact HI2.out, Nat.le_refl _, Chg.refl _ _, fun j hj => .inl hj, fun j hj e => by have := HLT.out j hj; omega⟩, fun j hj => hj.elim⟩
    case assign =>
      intro l i Y K hi hK
      unfold encB
      gi_wp2
      exact hK
    case body =>
      rintro l' O i Y _ _ hi ⟨d', h1, h2, h3, h4, h5⟩ hlt _
      have hi2 : i < (tl s k).length := by rw [tlZ, List.length_map] at hi; exact hi
      have hil : i < 128 := by rw [tl_len] at hi2; omega
      obtain ⟨a1, a2, a3, a4⟩ := HK.out Y h3
      have hty := tell_tl (s := s) (k := k) hi2
      obtain ⟨hh, hst⟩ := pu_step HWF.out hk hf hi2
      have hput := put_any (tellB (tlZ s k) i) Y h1 (HT2.out Y h3) (by omega)
      rw [hty, puE_hand hh, if_pos rfl, Int.toNat_natCast, ← hst, ← hty] at hput
      have HP := Lib.hid hput
      have HF : Hid (∀ Y' : World, To Y Y' H d' (pu s k (i + 1)) (m + i + 1) → ∃ O', Turn X.heap.size O O' Y Y' ∧ ∃ d', Is Y' H d' (pu s k (i + 1)) (m + (i + 1)) ∧ X.heap.size ≤ Y'.heap.size ∧ Chg (fun j => Mine H d2 j ∨ X.heap.size ≤ j) X Y' ∧ (∀ j, Mine H d' j → Mine H d2 j ∨ X.heap.size ≤ j) ∧ ∀ j, Mine H d' j → X.heap.size ≤ j → O' j) := Lib.hid fun Y' ⟨d3, b1, b2, b3⟩ => by
        refine ⟨fun j => Mine H d3 j ∧ X.heap.size ≤ j, ⟨b2.size, fun j c1 c2 c3 => b2.block j c2 (fun e => c3 (h5 j e c1)), fun j hj => (b3 j hj.1).imp (fun e => h5 j e hj.2) id, fun j hj => b1.lt hj.1⟩, d3, b1, Nat.le_trans h2 b2.size, h3.trans b2 (fun j e => (h4 j e).imp (fun e => e) id |>.elim (fun e => .inl (.inl e)) (fun e => .inl (.inr e))), fun j hj => (b3 j hj).elim (h4 j) (fun e => .inr (by omega)), fun j hj e => ⟨hj, e⟩⟩
      clear h1 h2 h3 h4 h5 hput hh hst hty a2 a3 a4 hlt
      gi_wp2_with (refine ⟨trivial, ?_⟩; gi_at_call 163; refine (callsIn_wide.2 HP.out).mono ?_; rintro e Y' ⟨rfl, hT3⟩)
      exact HF.out _ hT3
    case done =>
      rintro D O Y hD ⟨d', h1, h2, h3, h4, h5⟩ hn hlt hK
      obtain ⟨a1, a2, a3, a4⟩ := HK.out Y h3
      have a0 := a3 0 (by omega)
      have hl := tl_len s k
      have hlz : (tlZ s k).length = (tl s k).length := by rw [tlZ, List.length_map]
      have hDm : ¬ Mine H d' D := fun e => hn (h5 D e hD)
      have hfin : To w (Y.putObj D (.deferred none)) H d (roN s k) (m + 128) := by
        have e1 : Is (Y.putObj D (.deferred none)) H d' (pu s k (tlZ s k).length) (m + (tlZ s k).length) := h1.kept (fun j hj => World.putObj_heap_other (fun e => hDm (e ▸ hj))) (by simp)
        rw [hlz] at e1
        refine ⟨d', e1.more (by omega), ?_, fun j hj => (h4 j hj).elim (HC12.out.2 j) (fun e => .inr (by omega))⟩
        have c1 : Chg (Mine H d) w Y := HC12.out.1.trans h3 (fun j e => e.elim (HC12.out.2 j) (fun e => .inr (by omega)))
        exact c1.trans (T := fun j => w.heap.size ≤ j) ⟨rfl, rfl, rfl, by simp, fun j _ hj => World.putObj_heap_other (fun e => hj (by omega))⟩ (fun j e => .inr e)
      have HF := Lib.hid hfin
      clear h1 h2 h3 h4 h5 hfin a1 a2 a3 a4
      gi_wp2
      refine ⟨by simp, .inl ⟨_, _, rfl, run_takeDeferred hK, ?_⟩⟩
      exact ⟨_, results_tmp2 rfl _ _ _, rfl, HF.out⟩
    case stop => rintro D cc O i Y hD hi e; exact e.elim
end Go.Proofs.YthpgnlcmpoldfaaGreatDoor.Hp

namespace Go.Proofs.YthpgnlcmpoldfaaGreatDoor.Hp
open Go.RowKit
open Class (isB isB_true isB_false is_any sizI sizI_bd roomI SizTab clsI clsI_bd)
open Blk (Cfg TbIs ownB ownB_true blk kAt adr perN perN_pos)
open Go.Proofs.YthpgnlcmpoldfaaGreatDoor.Row (Chg)
open Lis (upd upd_same upd_other)
open Go.Proofs.YthpgnlcmpoldfaaGreatDoor.Addr (Tabs)

theorem To.tabs {w w1 : World} {H : Nat} {d : Ids} {s s1 : St} {m m1 : Nat} (h : Is w H d s m) (hT : To w w1 H d s1 m1) (ht : Tabs w) : Tabs w1 := by
  obtain ⟨d1, h1, h2, h3⟩ := hT
  exact h.tabs h2 ht

/-- Which slot an object gets; what is there then. -/
def rmA (s : St) (k : Nat) : Nat := match s.hv k with | a :: _ => a | [] => ad s k 0
def rmS (s : St) (k : Nat) : St := match s.hv k with | _ :: l => { s with hv := upd s.hv k l } | [] => roN s k
def rmOk (s : St) (k : Nat) : Bool := !(s.hv k).isEmpty || decide ((s.ks.length : Int) < s.c.b)
theorem rm_hand {w : World} {H : Nat} {d : Ids} {s : St} {m k : Nat} (h : Is w H d s m) (hk : k < 4) (hr : rmOk s k = true) : handB (rmS s k) (rmA s k) = true ∧ cls (rmS s k) (rmA s k) = k := by
  cases he : s.hv k with
  | cons a l =>
    have e1 : rmA s k = a := by rw [rmA, he]
    have e2 : rmS s k = { s with hv := upd s.hv k l } := by rw [rmS, he]
    rw [e1, e2]
    obtain ⟨c1, c2, c3, c4⟩ := h.wf.free k hk a (by rw [he]; exact List.mem_cons_self ..)
    refine ⟨?_, c2⟩
    have hno : a ∉ l := by have := h.held.once k hk; rw [he] at this; exact (List.nodup_cons.1 this).1
    have hfr : fr { s with hv := upd s.hv k l } a = false := by
      rw [fr_false]
      intro j hj hm
      have hm' : a ∈ upd s.hv k l j := hm
      by_cases e : j = k
      · subst e; rw [upd_same] at hm'; exact hno hm'
      · rw [upd_other _ _ e] at hm'
        exact e (h.held.apart j k a hj hk hm' (by rw [he]; exact List.mem_cons_self ..))
    unfold handB
    rw [bnI_nat, frI_nat, hfr]
    have e3 : own { s with hv := upd s.hv k l } a = own s a := rfl
    have e4 : bn { s with hv := upd s.hv k l } a = bn s a := rfl
    rw [e3, e4, c1, c3]
    rfl
  | nil =>
    have e1 : rmA s k = ad s k 0 := by rw [rmA, he]
    have e2 : rmS s k = roN s k := by rw [rmS, he]
    have hf : (s.ks.length : Int) < s.c.b := by
      unfold rmOk at hr
      rw [he] at hr
      simpa using hr
    rw [e1, e2]
    obtain ⟨h1, h2, h3⟩ := ad_hand h.wf hk hf (perN_pos h.wf.right hk)
    refine ⟨puL_hand h1 _ (fun hm => ?_), ?_⟩
    · rw [List.take_of_length_le (by rw [List.length_reverse]; exact Nat.le_refl _), List.mem_reverse] at hm
      unfold tl at hm
      obtain ⟨j, _, e⟩ := List.mem_map.1 hm
      have := ad_inj h.wf hk e
      omega
    · obtain ⟨p1, p2, _⟩ := puL_c (asS s k) ((tl s k).reverse.take (tl s k).length)
      unfold roN pu cls
      rw [p1, p2]
      exact h2
theorem room_any {H : Nat} {d : Ids} {s : St} {m : Nat} (k : Nat) (w : World) (h : Is w H d s m) (ht : Tabs w) (hm : m < 800000) (hk : k < 4) (hr : rmOk s k = true) :
    Calls Tryz.prog 121 #[.pointer (some ⟨H, 0, none⟩), .int .i64 k] w fun e w' => e = .returned (.tuple #[.int .i64 (rmA s k), .int .i64 0]) ∧ To w w' H d (rmS s k) (m + 128) := by
  cases he : s.hv k with
  | cons a l =>
    have e1 : rmA s k = a := by rw [rmA, he]
    have e2 : rmS s k = { s with hv := upd s.hv k l } := by rw [rmS, he]
    rw [e1, e2]
    exact (room_take k a l w h hk he).mono fun e w' ⟨x, y⟩ => ⟨x, y.more (by omega)⟩
  | nil =>
    have e1 : rmA s k = ad s k 0 := by rw [rmA, he]
    have e2 : rmS s k = roN s k := by rw [rmS, he]
    rw [e1, e2]
    exact room_new k w h ht hm hk he (by unfold rmOk at hr; rw [he] at hr; simpa using hr)

/-- Fields laid 0. -/
def zr (s : St) (a : Nat) : Nat → St
  | 0 => s
  | j + 1 => stS (zr s a j) a j 0
theorem hand_ws (s : St) (ws : List Nat) (a : Int) : handB { s with ws := ws } a = handB s a := rfl
theorem zr_rest (s : St) (a j : Nat) : (zr s a j).c = s.c ∧ (zr s a j).ks = s.ks ∧ (zr s a j).hv = s.hv ∧ (zr s a j).bs = s.bs ∧ (zr s a j).os = s.os ∧ (zr s a j).ce = s.ce ∧ (zr s a j).ws.length = s.ws.length := by
  induction j with
  | zero => exact ⟨rfl, rfl, rfl, rfl, rfl, rfl, rfl⟩
  | succ j ih =>
    obtain ⟨h1, h2, h3, h4, h5, h6, h7⟩ := ih
    exact ⟨h1, h2, h3, h4, h5, h6, by show ((zr s a j).ws.set _ _).length = _; rw [List.length_set]; exact h7⟩
theorem zr_hand (s : St) (a j : Nat) (b : Int) : handB (zr s a j) b = handB s b := by
  induction j with
  | zero => rfl
  | succ j ih => exact ih
theorem wdA_st (s : St) {a f v : Nat} (h1 : 1 ≤ a) : wdA (stS s a f v) a = wdA s a := by
  show Arena.wd (s.ws.set (a + f) v) (a - 1) = _
  rw [Arena.wd_set, if_neg (by omega)]
  rfl
theorem zr_wdA (s : St) {a : Nat} (h1 : 1 ≤ a) (j : Nat) : wdA (zr s a j) a = wdA s a := by
  induction j with
  | zero => rfl
  | succ j ih => exact (wdA_st _ h1).trans ih
theorem wdA_be {s : St} {a n : Nat} (h1 : 1 ≤ a) (h2 : a ≤ s.ws.length) : wdA (beS s a n) a = Hdr.obI (cls s a : Nat) (n : Nat) := by
  show Arena.wd (s.ws.set (a - 1) _) (a - 1) = _
  rw [Arena.wd_set, if_pos ⟨rfl, by omega⟩]

/-- What Make tells, and leaves. -/
def mkE (s : St) (n c : Int) : Int := if 0 ≤ n ∧ n ≤ 15 then (if colB c = true then (if rmOk s (clsI n).toNat = true then 0 else 10) else 1) else 8
def mkA (s : St) (n : Int) : Nat := rmA s (clsI n).toNat
def mk2 (s : St) (n : Int) : St := beS (rmS s (clsI n).toNat) (mkA s n) n.toNat
def mkS (s : St) (n c : Int) : St := baS (zr (mk2 s n) (mkA s n) n.toNat) (mkA s n) c

set_option maxRecDepth 100000 in
set_option maxHeartbeats 1000000 in
theorem make_nil (n c : Int) (w : World) (ht : Tabs w) : Calls Tryz.prog 94 #[.pointer none, .int .i64 n, .int .i64 c] w fun e w' => e = .returned (.tuple #[.int .i64 0, .int .i64 11]) ∧ w = w' := by
  by_cases hn : 0 ≤ n ∧ n ≤ 15
  · have HO := Lib.hid (Class.of_yes n w ht.siz hn.1 hn.2)
    go_enter Tryz.func94, Tryz.ntmps94
    go_wp2_with (go_at_call 119; refine HO.out.mono ?_; rintro e w1 ⟨rfl, rfl⟩)
    go_ret2
    exact ⟨rfl, rfl⟩
  · have HO := Lib.hid (Class.of_no n w (by omega))
    go_enter Tryz.func94, Tryz.ntmps94
    go_wp2_with (go_at_call 119; refine HO.out.mono ?_; rintro e w1 ⟨rfl, rfl⟩)
    go_ret2
    exact ⟨rfl, rfl⟩
set_option maxRecDepth 100000 in
set_option maxHeartbeats 1000000 in
theorem make_bad {H : Nat} {d : Ids} {s : St} {m : Nat} (n c : Int) (w : World) (h : Is w H d s m) (ht : Tabs w) (_hm : m < 800000) (he : mkE s n c ≠ 0) :
    Calls Tryz.prog 94 #[.pointer (some ⟨H, 0, none⟩), .int .i64 n, .int .i64 c] w fun e w' => e = .returned (.tuple #[.int .i64 0, .int .i64 (mkE s n c)]) ∧ To w w' H d s (m + 160) := by
  unfold mkE at he ⊢
  by_cases hn : 0 ≤ n ∧ n ≤ 15
  · rw [if_pos hn] at he ⊢
    have HO := Lib.hid (Class.of_yes n w ht.siz hn.1 hn.2)
    have HC := Lib.hid (color_any c w)
    have HH := Lib.hid h
    cases hc : colB c with
    | false =>
      rw [if_neg (by simp)]
      rw [hc] at HC
      clear h ht he
      go_enter Tryz.func94, Tryz.ntmps94
      go_wp2_with (first
        | (go_at_call 119; refine HO.out.mono ?_; rintro e w1 ⟨rfl, rfl⟩)
        | (go_at_call 120; refine HC.out.mono ?_; rintro e w1 ⟨rfl, rfl⟩))
      go_ret2
      exact ⟨rfl, To.of_below (HH.out.more (by omega)) (Below.refl _ _)⟩
    | true =>
      rw [hc, if_pos rfl] at he
      rw [if_pos rfl]
      have hr : rmOk s (clsI n).toNat = false := by
        cases e : rmOk s (clsI n).toNat with
        | false => rfl
        | true => rw [e] at he; exact absurd rfl he
      rw [hr, if_neg (by simp)]
      rw [hc] at HC
      have hcl := clsI_bd n
      obtain ⟨k, hk⟩ : ∃ k : Nat, clsI n = (k : Int) := ⟨(clsI n).toNat, by omega⟩
      rw [hk, Int.toNat_natCast] at hr
      rw [hk] at HO hcl
      unfold rmOk at hr
      rw [Bool.or_eq_false_iff] at hr
      have he2 : s.hv k = [] := by simpa using hr.1
      have hf : (s.ks.length : Int) = s.c.b := by have := h.wf.full; have := hr.2; simp at this; omega
      have HR := Lib.hid (room_full k w h (by omega) he2 hf)
      clear h ht he hr hk
      go_enter Tryz.func94, Tryz.ntmps94
      go_wp2_with (first
        | (go_at_call 119; refine HO.out.mono ?_; rintro e w1 ⟨rfl, rfl⟩)
        | (go_at_call 120; refine HC.out.mono ?_; rintro e w1 ⟨rfl, rfl⟩)
        | (go_at_call 121; refine HR.out.mono ?_; rintro e w1 ⟨rfl, hT⟩))
      go_ret2
      exact ⟨rfl, hT.more (by omega)⟩
  · rw [if_neg hn]
    have HO := Lib.hid (Class.of_no n w (by omega))
    have HH := Lib.hid h
    clear h ht he
    go_enter Tryz.func94, Tryz.ntmps94
    go_wp2_with (go_at_call 119; refine HO.out.mono ?_; rintro e w1 ⟨rfl, rfl⟩)
    go_ret2
    exact ⟨rfl, To.of_below (HH.out.more (by omega)) (Below.refl _ _)⟩

theorem takB_hand {s : St} {a : Nat} (h : handB s a = true) (hi : Hdr.isOb (wdA s a) = true) : takB s a = true := by
  unfold takB
  rw [h, Int.toNat_natCast, hi]
  simp
theorem sE_zero {s : St} {a j n : Nat} (hw : Wf s) (h : handB s a = true) (hi : Hdr.isOb (wdA s a) = true) (hn : Hdr.obF (wdA s a) = n) (hj : j < n) : sE s a j 0 = 0 := by
  have hbd := hw.own_bd (handB_parts h).1
  have ht := takB_hand h hi
  have h0 : (a : Int) ≠ 0 := by omega
  have e1 : fE s a = 0 := by rw [fE, if_neg h0, if_pos ht]
  have e2 : fN s a = n := by rw [fN, if_neg h0, if_pos ht, Int.toNat_natCast, hn]
  have e3 : lE s a j = 0 := by rw [lE, if_pos e1, e2, if_pos ⟨by omega, by omega⟩]
  rw [sE, if_pos e3, if_pos (mayV_true.2 ⟨by omega, by omega⟩)]
set_option maxRecDepth 100000 in
set_option maxHeartbeats 4000000 in
theorem make_good {H : Nat} {d : Ids} {s : St} {m : Nat} (n c : Int) (w : World) (h : Is w H d s m) (ht : Tabs w) (hm : m < 700000) (he : mkE s n c = 0) :
    Calls Tryz.prog 94 #[.pointer (some ⟨H, 0, none⟩), .int .i64 n, .int .i64 c] w fun e w' => e = .returned (.tuple #[.int .i64 (mkA s n), .int .i64 0]) ∧ To w w' H d (mkS s n c) (m + 160) := by
  have hn : 0 ≤ n ∧ n ≤ 15 := by
    unfold mkE at he
    split at he
    · assumption
    · omega
  have hc : colB c = true := by
    unfold mkE at he
    rw [if_pos hn] at he
    split at he
    · assumption
    · omega
  have hr : rmOk s (clsI n).toNat = true := by
    unfold mkE at he
    rw [if_pos hn, if_pos hc] at he
    split at he
    · assumption
    · omega
  obtain ⟨f, rfl⟩ := Int.eq_ofNat_of_zero_le hn.1
  obtain ⟨k, hk⟩ : ∃ k : Nat, clsI f = (k : Int) := ⟨(clsI f).toNat, by have := clsI_bd f; omega⟩
  have hcl := clsI_bd f
  have hlf := Class.least_facts hn.1 hn.2
  unfold mkS mk2 mkA
  rw [hk, Int.toNat_natCast] at hr
  rw [hk] at hcl hlf
  simp only [hk, Int.toNat_natCast]
  obtain ⟨hh1, hh2⟩ := rm_hand h (by omega) hr
  have HO := Lib.hid (Class.of_yes f w ht.siz hn.1 hn.2)
  rw [hk] at HO
  have HC := Lib.hid (color_any c w)
  rw [hc] at HC
  have HR := Lib.hid (room_any k w h ht (by omega) (by omega) hr)
  have hok : Hdr.okB (cls (rmS s k) (rmA s k) : Nat) (f : Nat) = true := by rw [hh2]; exact Hdr.okB_true.2 ⟨hlf.1, hn.1, hlf.2.1⟩
  have hbe : beE (rmS s k) (rmA s k) f = 0 := by rw [beE, if_pos hh1, if_pos hok]
  have HTB : Hid (∀ (W : World) (S : St) (M : Nat), To w W H d S M → Tabs W) := Lib.hid fun W S M hT => To.tabs h hT ht
  obtain ⟨i1, i2, i3⟩ := Hdr.isOb_ob hok
  have HBE := Lib.hid (fun (W : World) (d1 : Ids) (hI : Is W H d1 (rmS s k) (m + 128)) (ht : Tabs W) => (by
    have := begin_any (rmA s k : Nat) (f : Nat) W hI ht (by omega)
    rw [hbe, if_pos rfl, Int.toNat_natCast, Int.toNat_natCast] at this
    exact this : Calls Tryz.prog 122 #[.pointer (some ⟨H, 0, none⟩), .int .i64 (rmA s k : Nat), .int .i64 (f : Nat)] W fun e w' => e = .returned (.int .i64 0) ∧ To W w' H d1 (beS (rmS s k) (rmA s k) f) (m + 128 + 1)))
  have hfacts : ∀ (W : World) (d1 : Ids), Is W H d1 (rmS s k) (m + 128) → 1 ≤ rmA s k ∧ wdA (beS (rmS s k) (rmA s k) f) (rmA s k) = Hdr.obI (cls (rmS s k) (rmA s k) : Nat) (f : Nat) := fun W d1 hI => by
    have hbd := hI.wf.own_bd (handB_parts hh1).1
    exact ⟨by omega, wdA_be (by omega) (by omega)⟩
  have HFA := Lib.hid hfacts
  have hh3 : handB (beS (rmS s k) (rmA s k) f) (rmA s k) = true := hh1
  have HST := Lib.hid (fun (W : World) (d1 : Ids) (j : Nat) (hj : j < f) (h1 : 1 ≤ rmA s k) (hw2 : wdA (beS (rmS s k) (rmA s k) f) (rmA s k) = Hdr.obI (cls (rmS s k) (rmA s k) : Nat) (f : Nat)) (hI : Is W H d1 (zr (beS (rmS s k) (rmA s k) f) (rmA s k) j) (m + 129 + 2 * j)) (ht : Tabs W) => (by
    have hwz : wdA (zr (beS (rmS s k) (rmA s k) f) (rmA s k) j) (rmA s k) = Hdr.obI (cls (rmS s k) (rmA s k) : Nat) (f : Nat) := (zr_wdA _ h1 j).trans hw2
    have hs0 : sE (zr (beS (rmS s k) (rmA s k) f) (rmA s k) j) (rmA s k : Nat) j 0 = 0 := sE_zero hI.wf (by rw [zr_hand]; exact hh3) (by rw [hwz]; exact i1) (by rw [hwz]; exact i3) hj
    have := storeF_any (rmA s k : Nat) (j : Nat) 0 W hI ht (by omega)
    rw [hs0, if_pos rfl, Int.toNat_natCast, Int.toNat_natCast] at this
    exact this : Calls Tryz.prog 96 #[.pointer (some ⟨H, 0, none⟩), .int .i64 (rmA s k : Nat), .int .i64 (j : Nat), .int .i64 0] W fun e w' => e = .returned (.int .i64 0) ∧ To W w' H d1 (zr (beS (rmS s k) (rmA s k) f) (rmA s k) (j + 1)) (m + 129 + 2 * j + 2)))
  have HBA := Lib.hid (fun (W : World) (d1 : Ids) (h1 : 1 ≤ rmA s k) (hw2 : wdA (beS (rmS s k) (rmA s k) f) (rmA s k) = Hdr.obI (cls (rmS s k) (rmA s k) : Nat) (f : Nat)) (hI : Is W H d1 (zr (beS (rmS s k) (rmA s k) f) (rmA s k) f) (m + 129 + 2 * f)) (ht : Tabs W) => (by
    have hwz : wdA (zr (beS (rmS s k) (rmA s k) f) (rmA s k) f) (rmA s k) = Hdr.obI (cls (rmS s k) (rmA s k) : Nat) (f : Nat) := (zr_wdA _ h1 f).trans hw2
    have hs0 : baE (zr (beS (rmS s k) (rmA s k) f) (rmA s k) f) (rmA s k : Nat) c = 0 := by rw [baE, zr_hand, if_pos hh3, if_pos hc, Int.toNat_natCast, hwz, if_pos i1]
    have := bear_any (rmA s k : Nat) c W hI ht (by omega)
    rw [hs0, if_pos rfl, Int.toNat_natCast] at this
    exact this : Calls Tryz.prog 123 #[.pointer (some ⟨H, 0, none⟩), .int .i64 (rmA s k : Nat), .int .i64 c] W fun e w' => e = .returned (.int .i64 0) ∧ To W w' H d1 (baS (zr (beS (rmS s k) (rmA s k) f) (rmA s k) f) (rmA s k) c) (m + 129 + 2 * f + 1)))
  have hf15 : f ≤ 15 := by omega
  clear h ht he hn hr hlf hh1 hh2 hok hbe i1 i2 i3 hfacts hh3 hk hc
  generalize rmA s k = a at *
  generalize beS (rmS s k) a f = s2 at *
  generalize rmS s k = s1 at *
  go_enter Tryz.func94, Tryz.ntmps94
  go_wp2_with (first
    | (go_at_call 119; refine HO.out.mono ?_; rintro e w1 ⟨rfl, rfl⟩)
    | (go_at_call 120; refine HC.out.mono ?_; rintro e w1 ⟨rfl, rfl⟩)
    | (go_at_call 121; refine HR.out.mono ?_; rintro e w1 ⟨rfl, hT1⟩; have HTT1 := Lib.hid (HTB.out _ _ _ hT1); obtain ⟨d1, hI1, hC1, hR1⟩ := hT1; obtain ⟨g1, g2⟩ := HFA.out _ _ hI1; have HI1 := Lib.hid hI1; have HC1 := Lib.hid hC1; have HR1 := Lib.hid hR1; clear hI1 hC1 hR1)
    | (go_at_call 122; refine (HBE.out _ _ HI1.out HTT1.out).mono ?_; rintro e w2 ⟨rfl, hT2⟩; have HT2 := Lib.hid (To.step HC1.out HR1.out hT2); clear hT2))
  have G2 := Lib.hid g2
  clear g2
  go_loopw [42] (fun i wr => ∃ j : Nat, j ≤ f ∧ i = .int .i64 (j : Int) ∧ To w wr H d (zr s2 a j) (m + 129 + 2 * j)) (fun i _ => f - (intOf i).toNat)
  case atStart => exact ⟨0, Nat.zero_le _, rfl, HT2.out⟩
  case round =>
    obtain ⟨j, hj, rfl, hT⟩ := hrel
    have HTT := Lib.hid (HTB.out _ _ _ hT)
    obtain ⟨d3, hI3, hC3, hR3⟩ := hT
    have HI3 := Lib.hid hI3
    have HC3 := Lib.hid hC3
    have HR3 := Lib.hid hR3
    clear hI3 hC3 hR3
    by_cases hlt : j < f
    · have i5 : (j : Int) < (f : Int) := by omega
      go_wp2_with (go_at_call 96; refine (HST.out _ _ j hlt g1 G2.out HI3.out HTT.out).mono ?_; rintro e w4 ⟨rfl, hT4⟩; have HT4 := Lib.hid (To.step HC3.out HR3.out hT4); clear hT4)
      go_roundw
      case rel => exact ⟨j + 1, by omega, by go_num, HT4.out⟩
      case measure => simp [intOf]; omega
    · obtain rfl : j = f := by omega
      go_wp2_with (go_at_call 123; refine (HBA.out _ _ g1 G2.out HI3.out HTT.out).mono ?_; rintro e w4 ⟨rfl, hT4⟩)
      go_ret2
      exact ⟨rfl, (To.step HC3.out HR3.out hT4).more (by omega)⟩
end Go.Proofs.YthpgnlcmpoldfaaGreatDoor.Hp

namespace Go.Proofs.YthpgnlcmpoldfaaGreatDoor.Hp
open Go.RowKit
open Blk (Cfg)
open Go.Proofs.YthpgnlcmpoldfaaGreatDoor.Row (Chg)
open Go.Proofs.YthpgnlcmpoldfaaGreatDoor.Addr (Tabs)

def exH : Cfg := ⟨2, 16, 1, 1, 0, 1, 1⟩
theorem exH_right : rightB exH.b exH.wd exH.m exH.r exH.ce exH.lg exH.st = true := by decide
theorem ex1 : mkE (st0 exH 32 0) 1 0 = 0 ∧ mkA (st0 exH 32 0) 1 = 1 := by decide
set_option maxRecDepth 100000 in
theorem ex2 : mkE (mkS (st0 exH 32 0) 1 0) 1 0 = 0 ∧ mkA (mkS (st0 exH 32 0) 1 0) 1 = 3 := by decide

end Go.Proofs.YthpgnlcmpoldfaaGreatDoor.Hp

namespace Go.Proofs.YthpgnlcmpoldfaaGreatDoor.Hp
open Go.RowKit
open Blk (Cfg BoxIs)
open Go.Proofs.YthpgnlcmpoldfaaGreatDoor.Row (Chg)
open Go.Proofs.YthpgnlcmpoldfaaGreatDoor.Addr (Tabs)

theorem puL_ce (s : St) (l : List Nat) : (puL s l).ce = s.ce ∧ (puL s l).bs = s.bs ∧ (puL s l).os = s.os := by
  induction l generalizing s with
  | nil => exact ⟨rfl, rfl, rfl⟩
  | cons a l ih => exact ih (puS s a)
theorem rmS_rest (s : St) (k : Nat) : (rmS s k).c = s.c ∧ (rmS s k).ce = s.ce ∧ (rmS s k).ws.length = s.ws.length ∧ (rmS s k).bs = s.bs ∧ (rmS s k).os = s.os := by
  unfold rmS
  split
  · exact ⟨rfl, rfl, rfl, rfl, rfl⟩
  · obtain ⟨p1, p2, p3⟩ := puL_c (asS s k) ((tl s k).reverse.take (tl s k).length)
    obtain ⟨q1, q2, q3⟩ := puL_ce (asS s k) ((tl s k).reverse.take (tl s k).length)
    exact ⟨p1, q1, p3, q2, q3⟩
theorem mkS_rest (s : St) (n c : Int) : (mkS s n c).c = s.c ∧ (mkS s n c).ce = s.ce ∧ (mkS s n c).ws.length = s.ws.length := by
  obtain ⟨h1, h2, h3, h4, h5⟩ := rmS_rest s (Class.clsI n).toNat
  obtain ⟨z1, z2, z3, z4, z5, z6, z7⟩ := zr_rest (mk2 s n) (mkA s n) n.toNat
  refine ⟨z1.trans h1, z6.trans h2, z7.trans ?_⟩
  show ((rmS s (Class.clsI n).toNat).ws.set _ _).length = _
  rw [List.length_set]; exact h3
theorem make_some {H : Nat} {d : Ids} {s : St} {m : Nat} (n c : Int) (w : World) (h : Is w H d s m) (ht : Tabs w) (hm : m < 700000) :
    Calls Tryz.prog 94 #[.pointer (some ⟨H, 0, none⟩), .int .i64 n, .int .i64 c] w fun e w' => (∃ v, e = .returned v) ∧ ∃ s', s'.c = s.c ∧ s'.ce = s.ce ∧ s'.ws.length = s.ws.length ∧ To w w' H d s' (m + 160) := by
  by_cases he : mkE s n c = 0
  · refine (make_good n c w h ht hm he).mono ?_
    rintro e w' ⟨rfl, hT⟩
    obtain ⟨h1, h2, h3⟩ := mkS_rest s n c
    exact ⟨⟨_, rfl⟩, _, h1, h2, h3, hT⟩
  · refine (make_bad n c w h ht (by omega) he).mono ?_
    rintro e w' ⟨rfl, hT⟩
    exact ⟨⟨_, rfl⟩, _, rfl, rfl, rfl, hT⟩

/-- A heap above what lay, beside a config in its box. -/
structure Ce (w wr : World) (H : Nat) (dd : Ids) (s : St) (m : Nat) (d : Cfg) (n nc : Nat) : Prop where
  is : Is wr H dd s m
  hc : s.c = d
  hn : s.ws.length = n
  hl : s.ce.length = nc
  box : BoxIs wr w.heap.size d
  ge : ∀ k, Mine H dd k → w.heap.size < k
  bel : Below w.heap.size w wr
theorem Ce.step {w wr w' : World} {H : Nat} {dd : Ids} {s s' : St} {m m' : Nat} {d : Cfg} {n nc : Nat} (h : Ce w wr H dd s m d n nc) (hT : To wr w' H dd s' m') (h1 : s'.c = s.c) (h2 : s'.ce.length = s.ce.length) (h3 : s'.ws.length = s.ws.length) :
    ∃ dd', Ce w w' H dd' s' m' d n nc ∧ Chg (Mine H dd) wr w' ∧ ∀ j, Mine H dd' j → Mine H dd j ∨ wr.heap.size ≤ j := by
  obtain ⟨d', g1, g2, g3⟩ := hT
  have hb : Below (w.heap.size + 1) wr w' := g2.below (fun k hk => h.ge k hk) (by have := h.box.lt; omega)
  exact ⟨d', ⟨g1, h1.trans h.hc, h3.trans h.hn, h2.trans h.hl, h.box.below hb (Nat.lt_succ_self _), fun k hk => (g3 k hk).elim (h.ge k) (fun e => by have := h.box.lt; omega), h.bel.trans (hb.mono (Nat.le_succ _))⟩, g2, g3⟩
theorem Ce.tabs {w wr : World} {H : Nat} {dd : Ids} {s : St} {m : Nat} {d : Cfg} {n nc : Nat} (h : Ce w wr H dd s m d n nc) (ht : Tabs w) : Tabs wr := ht.later h.bel
/-- A row beside it. -/
structure Rw (wr : World) (H : Nat) (dd : Ids) (Rb : Nat) (rc : List Int) : Prop where
  at_ : ∀ t, t < rc.length → wr.cell? ⟨Rb, t, none⟩ = some (.int .i64 (rc.getD t 0))
  fz : ∀ t, t < rc.length → wr.frozen? ⟨Rb, t, none⟩ = false
  no : ¬ Mine H dd Rb
  lt : Rb < wr.heap.size
theorem Rw.step {wr w' : World} {H : Nat} {dd dd' : Ids} {Rb : Nat} {rc : List Int} (h : Rw wr H dd Rb rc) (hc : Chg (Mine H dd) wr w') (hR : ∀ j, Mine H dd' j → Mine H dd j ∨ wr.heap.size ≤ j) : Rw w' H dd' Rb rc :=
  ⟨fun t ht => (hc.cell (p := ⟨Rb, t, none⟩) h.lt h.no).trans (h.at_ t ht), fun t ht => (hc.frozen (p := ⟨Rb, t, none⟩) h.lt h.no).trans (h.fz t ht), fun e => (hR _ e).elim h.no (fun e => by have := h.lt; omega), Nat.lt_of_lt_of_le h.lt hc.size⟩
theorem Rw.lay {wr : World} {H : Nat} {dd : Ids} {Rb : Nat} {rc : List Int} (h : Rw wr H dd Rb rc) {t : Nat} (ht : t < rc.length) (v : Int) : Rw (wr.setCell ⟨Rb, t, none⟩ (.int .i64 v)) H dd Rb (rc.set t v) := by
  refine ⟨fun j hj => ?_, fun j hj => ?_, h.no, by rw [Row.size_setCell]; exact h.lt⟩
  · rw [List.length_set] at hj
    by_cases e : j = t
    · subst e
      rw [Row.same (h.at_ j hj)]
      simp [List.getD_eq_getElem?_getD, hj]
    · rw [Row.other (by first | (simp; done) | (simp; omega)), h.at_ j hj]
      simp [List.getD_eq_getElem?_getD, Ne.symm e]
  · rw [List.length_set] at hj
    rw [World.frozen?_setCell]; exact h.fz j hj
theorem Ce.laid {w wr : World} {H : Nat} {dd : Ids} {s : St} {m : Nat} {d : Cfg} {n nc : Nat} (h : Ce w wr H dd s m d n nc) {p : Addr} (hp : ¬ Mine H dd p.block) (hw : w.heap.size < p.block) (v : Value) : Ce w (wr.setCell p v) H dd s m d n nc :=
  have hb : Below (w.heap.size + 1) wr (wr.setCell p v) := (Below.refl _ _).setCell (by omega) _
  ⟨h.is.kept (fun k hk => Lis.heap_set (fun e => hp (e ▸ hk))) (by rw [Row.size_setCell]; exact Nat.le_refl _), h.hc, h.hn, h.hl, h.box.below hb (Nat.lt_succ_self _), h.ge, h.bel.trans (hb.mono (Nat.le_succ _))⟩
/-- The law's start: a new heap beside the config's box. -/
theorem Ce.start {w w1 w2 : World} {H : Nat} {dd : Ids} {d : Cfg} {n nc : Nat} (hb1 : Below w.heap.size w w1) (hbox : BoxIs w1 w.heap.size d) (hI : Is w2 H dd (st0 d n nc) 0) (hM : ∀ k, Mine H dd k → w1.heap.size ≤ k) (hb2 : Below w1.heap.size w1 w2) : Ce w w2 H dd (st0 d n nc) 0 d n nc :=
  ⟨hI, rfl, by show (List.replicate n 0 : List Nat).length = n; simp, by show (List.replicate nc (0 : Int)).length = nc; simp, hbox.later hb2, fun k hk => by have := hM k hk; have := hbox.lt; omega, hb1.trans (hb2.mono hb1.size)⟩
theorem Ce.later {w wr w' : World} {H : Nat} {dd : Ids} {s : St} {m : Nat} {d : Cfg} {n nc : Nat} (h : Ce w wr H dd s m d n nc) (hb : Below wr.heap.size wr w') : Ce w w' H dd s m d n nc :=
  ⟨h.is.later hb, h.hc, h.hn, h.hl, h.box.later hb, h.ge, h.bel.trans (hb.mono h.bel.size)⟩
end Go.Proofs.YthpgnlcmpoldfaaGreatDoor.Hp
