/-
  heap.New and mutator.Share where the table of config's limits alone is known.
-/
import Derived.Test.YthpgnlcmpoldfaaGreatDoorMuB
namespace Go.Proofs.YthpgnlcmpoldfaaGreatDoor
open Go.RowKit
structure Big3 (w : World) : Prop where
  blk : 2 < w.heap.size
/-- The table of limits, and room for another. -/
structure Tab1 (w : World) : Prop where
  lim : LimTab w
  siz : Big3 w
theorem Tab1.later {w w' : World} (h : Tab1 w) (hb : Below w.heap.size w w') : Tab1 w' := ⟨h.lim.later hb, ⟨Nat.lt_of_lt_of_le h.siz.blk hb.size⟩⟩
end Go.Proofs.YthpgnlcmpoldfaaGreatDoor

namespace Go.Proofs.YthpgnlcmpoldfaaGreatDoor.Hp
open Go.RowKit
open Class (isB isB_true isB_false is_any sizI sizI_bd roomI SizTab quiet_left below_drewN)
open Blk (Cfg TbIs ownB ownB_true blk kAt rowB BoxIs)
open Go.Proofs.YthpgnlcmpoldfaaGreatDoor.Row (Chg Rd)
open Arena (ArIs Two)
open Bits (SetIs)
open Lis (Sit Five Held LsIs upd upd_same upd_other set_kept lastN)
open Go.Proofs.YthpgnlcmpoldfaaGreatDoor.Addr (Tabs adrB adrB_true)
theorem new_bad1 (c : Cfg) (w : World) (ht : LimTab w) (hr : rightB c.b c.wd c.m c.r c.ce c.lg c.st = false) : Calls Tryz.prog 51 #[(.agg #[.int .i64 c.b, .int .i64 c.wd, .int .i64 c.m, .int .i64 c.r, .int .i64 c.ce, .int .i64 c.lg, .int .i64 c.st])] w fun e w' => e = .returned (.tuple #[.pointer none, .int .i64 1]) ∧ Below w.heap.size w w' := by
  have HT := Lib.hid ht
  clear ht
  go_enter Tryz.func51, Tryz.ntmps51
  go_wp2_with (go_at_call 79; refine (right_any _ _ _ _ _ _ _ _ (HT.out.alloc _)).mono ?_; rintro e w' ⟨rfl, hb⟩; rw [hr])
  go_ret2
  exact ⟨rfl, ((Below.refl _ _).alloc (Nat.le_refl _) _).trans (hb.mono (by simp))⟩

theorem new_fin1 {w w1 w2 w3 w4 w5 w6 : World} {c : Cfg} {n nc A G T L I J B Bw O Ow : Nat} (hR : rightB c.b c.wd c.m c.r c.ce c.lg c.st = true) (hn : c.b * c.wd = (n : Int)) (hnc : nc ≤ 64) (htt : Tab1 w) (hb1 : Below w.heap.size w w1)
    (hAr : ArIs w2 A G n (List.replicate n 0) 0 0) (hA1 : w1.heap.size ≤ A) (hG1 : w1.heap.size ≤ G) (hA2 : A < w2.heap.size) (hG2 : G < w2.heap.size) (hb2 : Below w1.heap.size w1 w2)
    (hT : TbIs w3 T w2.heap.size c [] none 0) (hb3 : Below w2.heap.size w2 w3)
    (hL : LsIs w4 L A T I w3.heap.size (fun _ => none) (fun _ => 0) (fun _ => [])) (hS : SetIs w4 I J (n + 1) ((n + 1 + 63) / 64) (zs n)) (hI1 : w3.heap.size ≤ I) (hJ1 : w3.heap.size ≤ J) (hI2 : I < L) (hJ2 : J < L) (hIJ : I ≠ J) (hL2 : L < w4.heap.size) (hb4 : Below w3.heap.size w3 w4)
    (hB : SetIs w5 B Bw (n + 1) ((n + 1 + 63) / 64) (zs n)) (hB1 : w4.heap.size ≤ B) (hBw1 : w4.heap.size ≤ Bw) (hB2 : B < w5.heap.size) (hBw2 : Bw < w5.heap.size) (hBB : B ≠ Bw) (hb5 : Below w4.heap.size w4 w5)
    (hO : SetIs w6 O Ow (n + 1) ((n + 1 + 63) / 64) (zs n)) (hO1 : w5.heap.size ≤ O) (hOw1 : w5.heap.size ≤ Ow) (hO2 : O < w6.heap.size) (hOw2 : Ow < w6.heap.size) (hOO : O ≠ Ow) (hb6 : Below w5.heap.size w5 w6) :
    ∃ d, Is ((w6.alloc (.cells (zeroInts nc) 3)).alloc (.cells #[.pointer (some ⟨A, 0, none⟩), .pointer (some ⟨T, 0, none⟩), .pointer (some ⟨L, 0, none⟩), .pointer (some ⟨B, 0, none⟩), .pointer (some ⟨O, 0, none⟩), .slice (some ⟨w6.heap.size, 0, none⟩) nc nc] 148)) (w6.heap.size + 1) d (st0 c n nc) 0 ∧
      (∀ k, Mine (w6.heap.size + 1) d k → w.heap.size ≤ k) ∧ Below w.heap.size w ((w6.alloc (.cells (zeroInts nc) 3)).alloc (.cells #[.pointer (some ⟨A, 0, none⟩), .pointer (some ⟨T, 0, none⟩), .pointer (some ⟨L, 0, none⟩), .pointer (some ⟨B, 0, none⟩), .pointer (some ⟨O, 0, none⟩), .slice (some ⟨w6.heap.size, 0, none⟩) nc nc] 148)) := by
  have s1 := hb1.size
  have s2 := hb2.size
  have s3 := hb3.size
  have s4 := hb4.size
  have s5 := hb5.size
  have s6 := hb6.size
  have t1 := hT.base
  have t2 := hT.ltB
  have hAG := hAr.ne
  have hlen : (List.replicate n 0 : List Nat).length = n := by simp
  have g1 := htt.lim.blk
  have g2 := htt.siz.blk
  generalize hW7 : w6.alloc (.cells (zeroInts nc) 3) = w7
  have hb7 : Below w6.heap.size w6 w7 := by rw [← hW7]; exact (Below.refl _ _).alloc (Nat.le_refl _) _
  have s7 : w7.heap.size = w6.heap.size + 1 := by rw [← hW7]; simp
  have hcel : ∀ j, j < nc → w7.cell? ⟨w6.heap.size, j, none⟩ = some (.int .i64 0) ∧ w7.frozen? ⟨w6.heap.size, j, none⟩ = false := fun j hj => by
    rw [← hW7]; exact ⟨by simp [zeroInts_at nc j hj], by simp⟩
  generalize hW8 : w7.alloc (.cells #[.pointer (some ⟨A, 0, none⟩), .pointer (some ⟨T, 0, none⟩), .pointer (some ⟨L, 0, none⟩), .pointer (some ⟨B, 0, none⟩), .pointer (some ⟨O, 0, none⟩), .slice (some ⟨w6.heap.size, 0, none⟩) nc nc] 148) = w8
  have hb8 : Below w7.heap.size w7 w8 := by rw [← hW8]; exact (Below.refl _ _).alloc (Nat.le_refl _) _
  have s8 : w8.heap.size = w7.heap.size + 1 := by rw [← hW8]; simp
  have hH : ∀ j v, (#[.pointer (some ⟨A, 0, none⟩), .pointer (some ⟨T, 0, none⟩), .pointer (some ⟨L, 0, none⟩), .pointer (some ⟨B, 0, none⟩), .pointer (some ⟨O, 0, none⟩), .slice (some ⟨w6.heap.size, 0, none⟩) nc nc] : Array Value)[j]? = some v → w8.cell? ⟨w6.heap.size + 1, j, none⟩ = some v := fun j v h => by
    rw [← hW8, ← s7, World.cell?_alloc_new]; exact h
  have b68 : Below w6.heap.size w6 w8 := hb7.trans (hb8.mono hb7.size)
  have b58 : Below w5.heap.size w5 w8 := hb6.trans (b68.mono hb6.size)
  have b48 : Below w4.heap.size w4 w8 := hb5.trans (b58.mono hb5.size)
  have b38 : Below w3.heap.size w3 w8 := hb4.trans (b48.mono hb4.size)
  have b28 : Below w2.heap.size w2 w8 := hb3.trans (b38.mono hb3.size)
  have b08 : Below w.heap.size w w8 := hb1.trans ((hb2.trans (b28.mono hb2.size)).mono hb1.size)
  have hmine : ∀ k, Mine (w6.heap.size + 1) (⟨A, G, T, L, I, J, B, Bw, O, Ow, w6.heap.size, n, (n + 1 + 63) / 64, 0, (n + 1 + 63) / 64, (n + 1 + 63) / 64, nc, w3.heap.size, w2.heap.size, fun _ => none, fun _ => 0, none, zs n, 0, 0⟩ : Ids) k → w.heap.size ≤ k := fun k hk => by
    rcases hk with e | e | e
    · unfold lo Lis.Own at e
      rcases e with e | e | e | e | e | ⟨i, _, e⟩
      · have : k = L := e; omega
      · have : k = A := e; omega
      · have : k = G := e; omega
      · have : k = I := e; omega
      · have : k = J := e; omega
      · cases e
    · unfold seven at e
      have : k = w6.heap.size + 1 ∨ k = T ∨ k = B ∨ k = Bw ∨ k = O ∨ k = Ow ∨ k = w6.heap.size := e
      omega
    · cases e
  refine ⟨⟨A, G, T, L, I, J, B, Bw, O, Ow, w6.heap.size, n, (n + 1 + 63) / 64, 0, (n + 1 + 63) / 64, (n + 1 + 63) / 64, nc, w3.heap.size, w2.heap.size, fun _ => none, fun _ => 0, none, zs n, 0, 0⟩, ?_, hmine, b08⟩
  refine ⟨⟨hL.later b48, hAr.below b28 hA2 hG2, ?_, (show Five L A G I J from ⟨by omega, by omega, by omega, by omega, hAG, by omega, by omega, by omega, by omega, hIJ⟩), by show G < _; omega, by show J < _; omega, (fun k _ g hg => by cases hg), by show w3.heap.size ≤ _; omega⟩, ?_, hT.later b38, ?_, ?_,
    hH 0 _ rfl, hH 1 _ rfl, hH 2 _ rfl, hH 3 _ rfl, hH 4 _ rfl, ?_, ?_, ?_, by show Bw < _; omega, by show Ow < _; omega, by show w6.heap.size < _; omega, ?_, ?_, ?_, by show w2.heap.size ≤ _; omega, ?_, ⟨Nat.le_refl _, Nat.le_refl _, fun _ _ => Nat.zero_le _⟩, ?_, wf0 hR hn⟩
  · show SetIs w8 I J ((List.replicate n 0 : List Nat).length + 1) _ _
    rw [hlen]; exact Lis.set_below hS b48 (by omega) (by omega)
  · exact Held.start n _ rfl
  · show SetIs w8 B Bw ((List.replicate n 0 : List Nat).length + 1) _ _
    rw [hlen]; exact Lis.set_below hB b58 hB2 hBw2
  · show SetIs w8 O Ow ((List.replicate n 0 : List Nat).length + 1) _ _
    rw [hlen]; exact Lis.set_below hO b68 hO2 hOw2
  · show w8.cell? _ = some (.slice (some ⟨w6.heap.size, 0, none⟩) (List.replicate nc (0 : Int)).length nc)
    rw [List.length_replicate]; exact hH 5 _ rfl
  · intro j hj
    have hj' : j < nc := by simpa [st0] using hj
    show w8.cell? ⟨w6.heap.size, j, none⟩ = some (.int .i64 ((List.replicate nc (0 : Int)).getD j 0))
    rw [hb8.cell (p := ⟨w6.heap.size, j, none⟩) (by show w6.heap.size < _; omega), (hcel j hj').1]
    simp [List.getD_eq_getElem?_getD, hj']
  · intro j hj
    have hj' : j < nc := by simpa [st0] using hj
    show w8.frozen? ⟨w6.heap.size, j, none⟩ = false
    rw [hb8.frozen (p := ⟨w6.heap.size, j, none⟩) (by show w6.heap.size < _; omega)]; exact (hcel j hj').2
  · show [w6.heap.size + 1, T, B, Bw, O, Ow, w6.heap.size].Nodup
    simp only [List.nodup_cons, List.mem_cons, List.not_mem_nil, or_false, not_or, List.nodup_nil, and_true, not_false_eq_true]
    omega
  · intro k hk e
    unfold lo Lis.Own at hk
    unfold seven at e
    have e' : k = w6.heap.size + 1 ∨ k = T ∨ k = B ∨ k = Bw ∨ k = O ∨ k = Ow ∨ k = w6.heap.size := e
    rcases hk with e | e | e | e | e | ⟨i, _, e⟩
    · have : k = L := e; omega
    · have : k = A := e; omega
    · have : k = G := e; omega
    · have : k = I := e; omega
    · have : k = J := e; omega
    · cases e
  · intro g hg; cases hg
  · intro k hk; have := hmine k hk; omega
  · show (List.replicate nc (0 : Int)).length ≤ nc ∧ (List.replicate nc (0 : Int)).length ≤ 64
    rw [List.length_replicate]; omega

set_option maxRecDepth 100000 in
set_option maxHeartbeats 4000000 in
theorem new_good1 (c : Cfg) (n nc : Nat) (w : World) (ht : Tab1 w) (hR : rightB c.b c.wd c.m c.r c.ce c.lg c.st = true) (hn : c.b * c.wd = (n : Int)) (hnc : c.ce = (nc : Int)) :
    Calls Tryz.prog 51 #[(.agg #[.int .i64 c.b, .int .i64 c.wd, .int .i64 c.m, .int .i64 c.r, .int .i64 c.ce, .int .i64 c.lg, .int .i64 c.st])] w fun e w' => ∃ H d, e = .returned (.tuple #[.pointer (some ⟨H, 0, none⟩), .int .i64 0]) ∧ Is w' H d (st0 c n nc) 0 ∧ (∀ k, Mine H d k → w.heap.size ≤ k) ∧ Below w.heap.size w w' := by
  have hRC : RightC c.b c.wd c.m c.r c.ce c.lg c.st := Blk.slots_bd hR
  have HT := Lib.hid ht
  obtain ⟨p0, p1⟩ := hRC.words
  have hn1 : 1 ≤ n := by
    have h1 : 1 * 1 ≤ c.b * c.wd := Int.mul_le_mul hRC.b0 (by have := hRC.wd0; omega) (by decide) (by have := hRC.b0; omega)
    omega
  have hn2 : n ≤ 1048576 := by omega
  have hnc2 : nc ≤ 64 := by have := hRC.ce1; omega
  have HMI := Lib.hid (make_ints nc (by omega))
  have HRC := Lib.hid hRC
  have HR := Lib.hid hR
  have HN := Lib.hid hn
  have HNC := Lib.hid hnc
  clear ht hRC p0 p1 hR hn hnc
  go_enter Tryz.func51, Tryz.ntmps51
  go_wp2_with fail
  obtain ⟨w1, hw1⟩ : ∃ w1, w1 = w.alloc (.cells #[.int .i64 c.b, .int .i64 c.wd, .int .i64 c.m, .int .i64 c.r, .int .i64 c.ce, .int .i64 c.lg, .int .i64 c.st] 23) := ⟨_, rfl⟩
  rw [← hw1]
  have hb1 : Below w.heap.size w w1 := by rw [hw1]; exact (Below.refl _ _).alloc (Nat.le_refl _) _
  have hbox : BoxIs w1 w.heap.size c := by rw [hw1]; exact ⟨by simp, by simp, by simp, by simp, by simp, by simp, by simp⟩
  have hs1 : w1.heap.size = w.heap.size + 1 := by rw [hw1]; simp
  have HX := Lib.hid hbox
  have HB1 := Lib.hid hb1
  clear hw1 hb1 hbox
  refine (right_any _ _ _ _ _ _ _ w1 (HT.out.later HB1.out).lim).mono ?_
  rintro e w1a ⟨rfl, hb1a⟩
  rw [HR.out]
  have HB1a := Lib.hid hb1a
  have HXa := Lib.hid (HX.out.later hb1a)
  clear hb1a
  have c0 := HXa.out.b0
  have c1 := HXa.out.b1
  have c2 := HXa.out.b2
  have c3 := HXa.out.b3
  have c4 := HXa.out.b4
  have c5 := HXa.out.b5
  have c6 := HXa.out.b6
  go_wp2_with fail
  have HBa := Lib.hid (HB1.out.trans (HB1a.out.mono HB1.out.size))
  refine (words_yes _ _ _ _ _ _ _ _ (HT.out.later HBa.out).lim HRC.out HR.out).mono ?_
  rintro e w1b ⟨rfl, hb1b⟩
  rw [HN.out]
  have HBb := Lib.hid (HBa.out.trans (hb1b.mono HBa.out.size))
  have HXb := Lib.hid (HXa.out.later hb1b)
  clear hb1b c0 c1 c2 c3 c4 c5 c6
  go_wp2_with fail
  refine (Arena.new_good n _ hn1 hn2).mono ?_
  rintro e w2 ⟨A, G, rfl, hAr, hA1, hG1, hA2, hG2, hb2⟩
  have HAr := Lib.hid hAr
  have HB2 := Lib.hid hb2
  have HX2 := Lib.hid (HXb.out.later hb2)
  clear hAr hb2
  have c0 := HX2.out.b0
  have c1 := HX2.out.b1
  have c2 := HX2.out.b2
  have c3 := HX2.out.b3
  have c4 := HX2.out.b4
  have c5 := HX2.out.b5
  have c6 := HX2.out.b6
  go_wp2_with fail
  have HBc := Lib.hid (HBb.out.trans (HB2.out.mono HBb.out.size))
  refine (Blk.new_good c _ (HT.out.later HBc.out).lim HR.out).mono ?_
  rintro e w3 ⟨T, rfl, hT3, hb3⟩
  have HT3 := Lib.hid hT3
  have HB3 := Lib.hid hb3
  have HX3 := Lib.hid (HX2.out.later hb3)
  have HBd := Lib.hid (HBc.out.trans (hb3.mono HBc.out.size))
  clear hT3 hb3 c0 c1 c2 c3 c4 c5 c6
  go_wp2_with fail
  refine (Lis.new_good _ (HAr.out.below HB3.out hA2 hG2) (Nat.lt_of_lt_of_le hG2 HB3.out.size) HT3.out (HT.out.later HBd.out).lim HR.out (by rw [List.length_replicate]; exact HN.out.symm)).mono ?_
  rintro e w4 ⟨L, I, J, rfl, hL, hS, hI1, hJ1, hI2, hJ2, hIJ, hL2, hb4⟩
  rw [List.length_replicate] at hS
  have HL := Lib.hid hL
  have HS := Lib.hid hS
  have HB4 := Lib.hid hb4
  have HX4 := Lib.hid (HX3.out.later hb4)
  clear hL hS hb4
  go_wp2_with fail
  rw [show ((n : Int) + 1) = ((n + 1 : Nat) : Int) by omega]
  refine (Bits.new_good (n + 1) _ (by omega)).mono ?_
  rintro e w5 ⟨B, Bw, rfl, hB, hB1, hBw1, hB2, hBw2, hBB, hb5⟩
  have HBs := Lib.hid hB
  have HB5 := Lib.hid hb5
  have HX5 := Lib.hid (HX4.out.later hb5)
  clear hB hb5
  go_wp2_with fail
  rw [show ((n : Int) + 1) = ((n + 1 : Nat) : Int) by omega]
  refine (Bits.new_good (n + 1) _ (by omega)).mono ?_
  rintro e w6 ⟨O, Ow, rfl, hO, hO1, hOw1, hO2, hOw2, hOO, hb6⟩
  have HOs := Lib.hid hO
  have HB6 := Lib.hid hb6
  have HX6 := Lib.hid (HX5.out.later hb6)
  clear hO hb6
  have c4 := HX6.out.b4
  rw [HNC.out] at c4
  have hmk := HMI.out
  have HF := Lib.hid (new_fin1 (nc := nc) HR.out HN.out hnc2 HT.out HBb.out HAr.out hA1 hG1 hA2 hG2 HB2.out HT3.out HB3.out HL.out HS.out hI1 hJ1 hI2 hJ2 hIJ hL2 HB4.out HBs.out hB1 hBw1 hB2 hBw2 hBB HB5.out HOs.out hO1 hOw1 hO2 hOw2 hOO HB6.out)
  clear hA1 hG1 hA2 hG2 hI1 hJ1 hI2 hJ2 hIJ hL2 hB1 hBw1 hB2 hBw2 hBB hO1 hOw1 hO2 hOw2 hOO
  go_wp2_with fail
  go_ret2
  obtain ⟨d, h1, h2, h3⟩ := HF.out
  exact ⟨_, d, rfl, h1, h2, h3⟩
end Go.Proofs.YthpgnlcmpoldfaaGreatDoor.Hp

namespace Go.Proofs.YthpgnlcmpoldfaaGreatDoor.Mu
open Go.RowKit
open Blk (Cfg)
open Hp (Ids St Is Mine st0)
open Lg (BfIs BxIs)
open Brd (BdIs)
open Qu (QuIs)
open Go.Proofs.YthpgnlcmpoldfaaGreatDoor.Addr (Tabs)
open Go.Proofs.YthpgnlcmpoldfaaGreatDoor.Row (Chg rowB rowB_none other same cell_of_block frozen_of_block owns_lt owns_chg owns_cell owns_slice info_parts push_row step_append_own one_at)
theorem share_bad1 (c : Cfg) (w : World) (ht : LimTab w) (hr : rightB c.b c.wd c.m c.r c.ce c.lg c.st = false) : Calls Tryz.prog 7 #[(.agg #[.int .i64 c.b, .int .i64 c.wd, .int .i64 c.m, .int .i64 c.r, .int .i64 c.ce, .int .i64 c.lg, .int .i64 c.st])] w fun e w' => e = .returned (.tuple #[.pointer none, .int .i64 1]) ∧ Below w.heap.size w w' := by
  have hA : Below w.heap.size w (w.alloc (.cells #[.int .i64 c.b, .int .i64 c.wd, .int .i64 c.m, .int .i64 c.r, .int .i64 c.ce, .int .i64 c.lg, .int .i64 c.st] 23)) := (Below.refl _ _).alloc (Nat.le_refl _) _
  have HN := Lib.hid (Hp.new_bad1 c _ (ht.later hA) hr)
  have HA := Lib.hid hA
  clear hA ht hr
  go_enter Tryz.func7, Tryz.ntmps7
  go_wp2_with (go_at_call 51; fail)
  refine HN.out.mono ?_
  rintro e w1 ⟨rfl, hb⟩
  have HB := Lib.hid (HA.out.trans (hb.mono HA.out.size))
  clear hb
  go_wp2_with fail
  go_ret2
  exact ⟨rfl, HB.out⟩
set_option maxRecDepth 100000 in
set_option maxHeartbeats 4000000 in
theorem share_any1 (c : Cfg) (n nc M : Nat) (w : World) (ht : Tab1 w) (hR : rightB c.b c.wd c.m c.r c.ce c.lg c.st = true) (hn : c.b * c.wd = (n : Int)) (hnc : c.ce = (nc : Int)) (hM : c.m = (M : Int)) (hM1 : 1 ≤ M) (hM8 : M ≤ 8) :
    Calls Tryz.prog 7 #[(.agg #[.int .i64 c.b, .int .i64 c.wd, .int .i64 c.m, .int .i64 c.r, .int .i64 c.ce, .int .i64 c.lg, .int .i64 c.st])] w fun e w' => ∃ y T, e = .returned (.tuple #[.pointer (some ⟨y.S, 0, none⟩), .int .i64 0]) ∧ ShIs w' y T (sd0 c n nc) M M ∧ (∀ k, T k → w.heap.size < k) ∧ w.heap.size < y.S ∧ (∀ g, rowB y.px g → w.heap.size < g) ∧ Below w.heap.size w w' := by
  have hA : Below w.heap.size w (w.alloc (.cells #[.int .i64 c.b, .int .i64 c.wd, .int .i64 c.m, .int .i64 c.r, .int .i64 c.ce, .int .i64 c.lg, .int .i64 c.st] 23)) := (Below.refl _ _).alloc (Nat.le_refl _) _
  have HN := Lib.hid (Hp.new_good1 c n nc _ (ht.later hA) hR hn hnc)
  have HA := Lib.hid hA
  have hzw : (w.alloc (.cells #[.int .i64 c.b, .int .i64 c.wd, .int .i64 c.m, .int .i64 c.r, .int .i64 c.ce, .int .i64 c.lg, .int .i64 c.st] 23)).heap.size = w.heap.size + 1 := by simp
  have HC0 : Hid ((w.alloc (.cells #[.int .i64 c.b, .int .i64 c.wd, .int .i64 c.m, .int .i64 c.r, .int .i64 c.ce, .int .i64 c.lg, .int .i64 c.st] 23)).cell? ⟨w.heap.size, 2, none⟩ = some (.int .i64 c.m)) := Lib.hid (by rw [World.cell?_alloc_new]; rfl)
  have HZW := Lib.hid hzw
  have HMM := Lib.hid (And.intro hM1 hM8)
  have HCM := Lib.hid hM
  clear hA ht hR hn hnc hzw hM hM1 hM8
  go_enter Tryz.func7, Tryz.ntmps7
  go_wp2_with (go_at_call 51; fail)
  refine HN.out.mono ?_
  rintro e w1 ⟨H, d, rfl, hIs, hmi, hb1⟩
  have HIS := Lib.hid hIs
  have HMI := Lib.hid hmi
  have HB1 := Lib.hid hb1
  have hcm := (hb1.cell (p := ⟨w.heap.size, 2, none⟩) (by show w.heap.size < _; rw [HZW.out]; omega)).trans HC0.out
  rw [HCM.out] at hcm
  have HCMC := Lib.hid hcm
  have hlw : w.heap.size < w1.heap.size := by have := hb1.size; rw [HZW.out] at this; omega
  have HNB := Lib.hid (Brd.new_good M (M : Int) rfl w1 HMM.out.1 HMM.out.2)
  clear hIs hmi hb1 HN
  go_wp2_with (go_at_call 52; fail)
  refine HNB.out.mono ?_
  rintro e w2 ⟨rfl, hbd, hb2, hz2⟩
  have HBD := Lib.hid hbd
  have HB2 := Lib.hid hb2
  have HZ2 := Lib.hid hz2
  have HNQ := Lib.hid (Qu.new_any w2)
  clear hbd hb2 hz2 HNB hcm
  go_wp2_with (go_at_call 53; fail)
  refine HNQ.out.mono ?_
  rintro e w3 ⟨rfl, hqu, hb3, hz3⟩
  have HQU := Lib.hid hqu
  have HB3 := Lib.hid hb3
  have HZ3 := Lib.hid hz3
  clear hqu hb3 hz3 HNQ
  obtain ⟨W5, hW5⟩ : ∃ W5, (w3.alloc (.cells #[.bool false] 88)).alloc (.cells #[.pointer (some ⟨H, 0, none⟩), .pointer (some ⟨w1.heap.size, 0, none⟩), .pointer (some ⟨w2.heap.size, 0, none⟩), .pointer (some ⟨w3.heap.size, 0, none⟩), .slice none 0 0] 54) = W5 := ⟨_, rfl⟩
  have hlp := LpI.start (w := w) (c := c) (n := n) (nc := nc) (M := M) (t1 := 88) (t2 := 54) HIS.out (fun k hk => by have := HMI.out k hk; rw [HZW.out] at this; omega) (HA.out.trans (HB1.out.mono HA.out.size)) hlw HBD.out HB2.out HZ2.out HQU.out HB3.out HZ3.out
  rw [hW5] at hlp
  have HLP := Lib.hid hlp
  have HCB : Hid (∀ V, Below w1.heap.size w1 V → V.cell? ⟨w.heap.size, 2, none⟩ = some (.int .i64 (M : Int))) := Lib.hid fun V hV => (hV.cell (p := ⟨w.heap.size, 2, none⟩) hlw).trans HCMC.out
  have hb15 : Below w1.heap.size w1 W5 := by
    rw [← hW5]
    have h3 : Below w1.heap.size w1 w3 := HB2.out.trans (HB3.out.mono HB2.out.size)
    exact (h3.alloc h3.size _).alloc (by have := h3.size; simp; omega) _
  have hcm5 := HCB.out W5 hb15
  have hl5 : w.heap.size < W5.heap.size := lt_of_cell hcm5
  clear hlp hb15 HIS HMI HB1 HBD HB2 HZ2 HQU HB3 HZ3
  go_wp2_with fail
  clear hW5 hcm5 hl5
  generalize w3.heap.size + 1 = SS at *
  go_loopw [31] (fun i wr => ∃ j : Nat, j ≤ M ∧ i = .int .i64 j ∧ ∃ y T, LpI w wr SS c n nc M j y T) (fun i _ => M - (intOf i).toNat)
  case atStart => exact ⟨0, Nat.zero_le _, rfl, _, _, HLP.out⟩
  case round =>
    clear HLP
    obtain ⟨j, hj, rfl, y, T, hlp⟩ := hrel
    have HLP := Lib.hid hlp
    clear hlp
    have j0 : (0 : Int) ≤ (j : Int) := by omega
    by_cases hlt : j < M
    · have j1 : (j : Int) < (M : Int) := by omega
      have j8 : (j : Int) ≤ 8 := by have := HMM.out.2; omega
      have c4 := HLP.out.sh.c4
      have f4 := HLP.out.fz
      rw [HLP.out.eS] at c4
      have hlS : SS < wr.heap.size := HLP.out.sh.tl _ HLP.out.tS
      have hsP := HLP.out.sP
      obtain ⟨i0, hinf, hz0, hz1, hz2⟩ := info_parts infoBx
      have HBX := Lib.hid (fun V => Lg.box_new V)
      have HD1 : Hid (Below wr.heap.size wr wr.drew) := Lib.hid (Below.refl _ _).drew
      have HAD := Lib.hid (fun w6 w3 p' cap' h1 h2 h3 h4 h5 h6 => LpI.add (w1 := w6) (w3 := w3) (p' := p') (cap' := cap') (o := .cells #[.pointer (some ⟨wr.heap.size, 0, none⟩)] 89) HLP.out h1 h2 h3 h4 h5 h6)
      have HOW : Hid (∀ V, Below wr.heap.size wr V → V.ownsRow w.heap.size 89 1 (.slice y.px j y.cx) j (bxV y.X j)) := Lib.hid fun V hV => owns_chg HLP.out.row (Chg.of_below (S := fun _ => False) hV) (fun _ _ e => e)
      have HWB : Hid (w.heap.size ≤ wr.heap.size) := Lib.hid HLP.out.bel.size
      have nO1 : j + 1 ≤ maxLen := by unfold maxLen; omega
      have nO2 : (j + 1) * 8 ≤ 140737488355328 := by omega
      clear HLP
      go_wp2_with fail
      go_region_law (first
        | (go_simp; go_at_call 54; refine (HBX.out _).mono ?_; rintro e w6 ⟨rfl, hbx, hb6, hz6⟩; have hb6' : Below wr.heap.size wr w6 := (by first | exact HD1.out.trans hb6 | exact hb6); have c46 := (hb6'.cell (p := ⟨SS, 4, none⟩) hlS).trans c4; have f46 := (hb6'.frozen (p := ⟨SS, 4, none⟩) hlS).trans f4; have hb6a : Below wr.heap.size wr (w6.alloc (.cells #[.pointer (some ⟨wr.heap.size, 0, none⟩)] 89)) := hb6'.alloc hb6'.size _; have c46a := (hb6a.cell (p := ⟨SS, 4, none⟩) hlS).trans c4; have HB6 := Lib.hid hb6'; have HB6A := Lib.hid hb6a; have HX6 := Lib.hid hbx; have HZ6 : Hid (w6.heap.size = wr.heap.size + 1) := Lib.hid hz6; clear hb6 hbx hz6 hb6' hb6a; try go_simp)
        | (refine step_append_own rfl (.tmp 37) (.tmp 39) 52 rfl w.heap.size 89 i0 (.pointer none) 1 8 Tryz.underlying52 hinf hz0 hz1 hz2 rfl (by decide) (.slice y.px j y.cx) j (bxV y.X j) rfl (HOW.out _ HB6A.out) ⟨w6.heap.size, 0, none⟩ 1 1 [.pointer (some ⟨wr.heap.size, 0, none⟩)] rfl rfl (one_at rfl) (by simp [Value.oneCell']) nO1 nO2 (Nat.le_trans HWB.out HB6A.out.size) ?_; intro v' w7 hown hgrow hat; obtain ⟨p', cap', rfl, hC, hR⟩ := push_row (Y := w6.alloc (.cells #[.pointer (some ⟨wr.heap.size, 0, none⟩)] 89)) (p := y.px) (cap := y.cx) (n := j) (Below.refl _ _) hown hgrow hat; have HNX := Lib.hid (HAD.out w6 w7 p' cap' HB6.out HZ6.out HX6.out hown hC hR); have c47 := (hC.cell (p := ⟨SS, 4, none⟩) (Nat.lt_of_lt_of_le hlS HB6A.out.size) hsP).trans c46a; have f47 := (hC.frozen (p := ⟨SS, 4, none⟩) (Nat.lt_of_lt_of_le hlS HB6A.out.size) hsP).trans ((HB6A.out.frozen (p := ⟨SS, 4, none⟩) hlS).trans f4); clear hown hgrow hat hC hR))
      all_goals (clear HAD HOW c4 f4 c46 c46a c47 f46 f47)
      all_goals (generalize w7.setCell ⟨SS, 4, none⟩ (.slice p' (j + 1) cap') = W8 at *)
      all_goals go_wp2_with fail
      all_goals go_roundw
      all_goals first
        | exact ⟨j + 1, by omega, by go_num, _, _, HNX.out⟩
        | (simp [intOf]; omega)
    · obtain rfl : j = M := by omega
      go_wp2_with fail
      go_ret2
      refine ⟨y, T, by rw [HLP.out.eS]; rfl, HLP.out.sh, HLP.out.ge, by rw [HLP.out.eS]; exact HLP.out.ge _ HLP.out.tS, fun g hg => HLP.out.ge _ (HLP.out.tP g hg), HLP.out.bel⟩
end Go.Proofs.YthpgnlcmpoldfaaGreatDoor.Mu
