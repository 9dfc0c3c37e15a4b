/-
  Texts of the heap, one behind the other: HpX HpY HpZ HpMk.
-/
import Derived.Test.YtipifkgmhgkleaaGreatDoorMzHq4
namespace Go.Proofs.YtipifkgmhgkleaaGreatDoor.Hp
open Go.RowKit Go.Shelf
open Class (isB isB_true isB_false below_drewN)
open Blk (Cfg TbIs collect_any cellsF cellsK)
open Go.Proofs.YtipifkgmhgkleaaGreatDoor.Row (Chg cellsZ Rd)
open Lis (intsN intsN_length cellsZ_ints told_rev tellB)
open Go.Proofs.YtipifkgmhgkleaaGreatDoor.Addr (Tabs)

theorem table_any {H : Nat} {d : Ids} {s : St} {m : Nat} (w : World) (h : Is w H d s m) : Calls Tryz.prog 289 #[.pointer (some ⟨H, 0, none⟩)] w fun e w' => ∃ B p cap, e = .returned (.pointer (some ⟨B, 0, none⟩)) ∧ TbIs w' B w.heap.size s.c s.ks p cap ∧ Below w.heap.size w w' := by
  have hcT := h.cT
  have HC := Lib.hid (Blk.copy_any w h.tb)
  clear h
  go_enter Tryz.func289, Tryz.ntmps289
  go_wp2_with (go_at_call 319; refine HC.out.mono ?_; rintro e w1 ⟨B, p, cap, rfl, hT, hb⟩)
  go_ret
  exact ⟨B, p, cap, rfl, hT, hb⟩
theorem config_any {H : Nat} {d : Ids} {s : St} {m : Nat} (w : World) (h : Is w H d s m) : Calls Tryz.prog 45 #[.pointer (some ⟨H, 0, none⟩)] w fun e w' => e = .returned (.agg #[.int .i64 s.c.b, .int .i64 s.c.wd, .int .i64 s.c.m, .int .i64 s.c.r, .int .i64 s.c.ce, .int .i64 s.c.lg, .int .i64 s.c.st]) ∧ Below w.heap.size w w' := by
  have hcT := h.cT
  have HC := Lib.hid (fun (W : World) (hb : Below w.heap.size w W) => Blk.config_any W (h.later hb).tb)
  have hHl := h.ltH
  clear h
  go_enter Tryz.func45, Tryz.ntmps45
  go_wp2_with (go_at_call 82; refine (HC.out _ ((Below.refl _ _).alloc (Nat.le_refl _) _)).mono ?_; rintro e w1 ⟨rfl, hb⟩; obtain ⟨hc1, hf1⟩ := bcell hb; have hz1 : w.heap.size < w1.heap.size := by have := hb.size; simp at this; omega)
  refine bodyPost_ret (v := .agg #[.int .i64 s.c.b, .int .i64 s.c.wd, .int .i64 s.c.m, .int .i64 s.c.r, .int .i64 s.c.ce, .int .i64 s.c.lg, .int .i64 s.c.st]) (by simp [results, Tryz.results45, go_sem, hc1]) rfl ⟨rfl, ?_⟩
  have hbA : Below w.heap.size w w1 := ((Below.refl w.heap.size w).alloc (Nat.le_refl _) _).trans (hb.mono (by simp))
  exact ((((((hbA.setCell (by simp) _).setCell (by simp) _).setCell (by simp) _).setCell (by simp) _).setCell (by simp) _).setCell (by simp) _).setCell (by simp) _
end Go.Proofs.YtipifkgmhgkleaaGreatDoor.Hp

namespace Go.Proofs.YtipifkgmhgkleaaGreatDoor.Hp
open Go.RowKit
open Class (isB isB_true sizI sizI_bd)
open Blk (Cfg allP seg valA adr perN kAt blk)
open Lis (intsN)

/-- The free slots, class by class. -/
def freL (s : St) : List Int := intsN (s.hv 0) ++ (intsN (s.hv 1) ++ (intsN (s.hv 2) ++ intsN (s.hv 3)))
/-- Objects, slots in hand and free slots, one behind the other. -/
def seenL (s : St) : List Int := objL s ++ (hanL s ++ freL s)
end Go.Proofs.YtipifkgmhgkleaaGreatDoor.Hp

namespace Go.Proofs.YtipifkgmhgkleaaGreatDoor.Hp
open Go.RowKit Go.Shelf
open Class (isB isB_true sizI sizI_bd)
open Blk (Cfg TbIs allP allP_succ allP_len seg seg_length perN kAt adr cellsF)
open Go.Proofs.YtipifkgmhgkleaaGreatDoor.Row (Chg cellsZ cellsZ_length cellsZ_at Rd Rd0 owns_slice owns_block owns_lt info_parts infoInt)
open Lis (intsN run_append_none)
open Go.Proofs.YtipifkgmhgkleaaGreatDoor.Addr (Tabs)

theorem cellsZ_seg (c : Cfg) (ks : List Nat) (b : Nat) : cellsZ (seg c ks b) = cellsF (adr c (kAt ks b) b) (perN c (kAt ks b)) := by
  simp [cellsZ, seg, cellsF]

/-- What is seen behind the first k lists. -/
def freP (s : St) (k : Nat) : List Int := (List.range k).flatMap fun k => intsN (s.hv k)
def snP (s : St) (k : Nat) : List Int := objL s ++ hanL s ++ freP s k

/-- A row of bools that says which numbers are in a list. -/
structure BIs (w : World) (I N : Nat) (l : List Int) : Prop where
  lt : I < w.heap.size
  at_ : ∀ x : Nat, x < N → w.cell? ⟨I, x, none⟩ = some (.bool (decide ((x : Int) ∈ l)))
  fz : ∀ x : Nat, x < N → w.frozen? ⟨I, x, none⟩ = false
theorem BIs.set {w : World} {I N : Nat} {l : List Int} (h : BIs w I N l) {y : Nat} (hy : y < N) : BIs (w.setCell ⟨I, y, none⟩ (.bool true)) I N (l ++ [(y : Int)]) := by
  refine ⟨by simpa [World.setCell] using h.lt, fun x hx => ?_, fun x hx => ?_⟩
  · by_cases e : x = y
    · subst e
      rw [Row.same (h.at_ x hx)]
      simp
    · rw [Row.other (by first | (simp; done) | (simp; omega)), h.at_ x hx]
      have e2 : (x : Int) ≠ (y : Int) := by omega
      simp [e2]
  · rw [World.frozen?_setCell]; exact h.fz x hx
theorem BIs.start (w : World) (N : Nat) : BIs (w.alloc (.cells (madeCells #[.bool false] N) 4)) w.heap.size N [] := by
  refine ⟨by simp, fun x hx => ?_, fun x hx => by simp⟩
  have := toList_madeCells_one (.bool false) N
  have h2 : (madeCells #[Value.bool false] N)[x]? = some (.bool false) := by
    rw [← Array.getElem?_toList, this, List.getElem?_replicate]
    simp [hx]
  simp [h2]

end Go.Proofs.YtipifkgmhgkleaaGreatDoor.Hp

namespace Go.Proofs.YtipifkgmhgkleaaGreatDoor.Hp
open Go.RowKit
open Class (isB isB_true sizI sizI_bd clsI clsI_bd)
open Blk (Cfg kAt blk)
open Lis (upd upd_same upd_other)
open Go.Proofs.YtipifkgmhgkleaaGreatDoor.Addr (Tabs)

theorem kAt_app (ks l : List Nat) {b : Nat} (h : b < ks.length) : kAt (ks ++ l) b = kAt ks b := by
  unfold kAt
  rw [List.getD_eq_getElem?_getD, List.getD_eq_getElem?_getD, List.getElem?_append_left h]
theorem rmS_ks (s : St) (k : Nat) : ∃ l, (rmS s k).ks = s.ks ++ l := by
  unfold rmS
  split
  · exact ⟨[], by simp⟩
  · obtain ⟨p1, p2, p3⟩ := puL_c (asS s k) ((tl s k).reverse.take (tl s k).length)
    exact ⟨[k], p2⟩
theorem mkS_ks (s : St) (n c : Int) : (mkS s n c).ks = (rmS s (clsI n).toNat).ks := by
  obtain ⟨z1, z2, _⟩ := zr_rest (mk2 s n) (mkA s n) n.toNat
  exact z2
theorem mkS_cls {s : St} (hw : Wf s) (n c : Int) {x : Nat} (h : own s x = true) : cls (mkS s n c) x = cls s x := by
  obtain ⟨l, e⟩ := rmS_ks s (clsI n).toNat
  unfold cls
  rw [mkS_ks, e, (mkS_rest s n c).1]
  exact kAt_app _ _ (hw.own_cls h)
theorem mkE_parts {s : St} {n c : Int} (he : mkE s n c = 0) : 0 ≤ n ∧ n ≤ 15 ∧ colB c = true ∧ rmOk s (clsI n).toNat = true := by
  unfold mkE at he
  by_cases hn : 0 ≤ n ∧ n ≤ 15
  · rw [if_pos hn] at he
    by_cases hc : colB c = true
    · rw [if_pos hc] at he
      by_cases hr : rmOk s (clsI n).toNat = true
      · exact ⟨hn.1, hn.2, hc, hr⟩
      · rw [if_neg hr] at he; cases he
    · rw [if_neg hc] at he; cases he
  · rw [if_neg hn] at he; cases he
/-- What Make leaves: the slot is an object then, and was none; the others are as they were. -/
theorem mkS_bn {w : World} {H : Nat} {d : Ids} {s : St} {m : Nat} (h : Is w H d s m) {n c : Int} (he : mkE s n c = 0) : (∀ x, bn (mkS s n c) x = if x = mkA s n then true else bn s x) ∧ bn s (mkA s n) = false ∧ cls (mkS s n c) (mkA s n) = (clsI n).toNat ∧ 1 ≤ mkA s n ∧ mkA s n ≤ s.ws.length := by
  obtain ⟨h1, h2, h3, h4⟩ := mkE_parts he
  have hcl := clsI_bd n
  obtain ⟨g1, g2⟩ := rm_hand h (by omega) h4
  obtain ⟨r1, r2, r3, r4, r5⟩ := rmS_rest s (clsI n).toNat
  obtain ⟨p1, p2, p3⟩ := handB_parts g1
  obtain ⟨z1, z2, z3, z4, z5, z6, z7⟩ := zr_rest (mk2 s n) (mkA s n) n.toNat
  have hbn : bn s (mkA s n) = false := by
    rw [bnI_nat] at p2
    have : bn (rmS s (clsI n).toNat) (mkA s n) = bn s (mkA s n) := by unfold bn; rw [r4]
    rw [← this]; exact p2
  have hle : 1 ≤ mkA s n ∧ mkA s n ≤ s.ws.length := by
    have hA := Blk.ownB_true.1 p1
    obtain ⟨_, a1, a2⟩ := Addr.adrB_true.1 hA.1
    have e : (rmS s (clsI n).toNat).c = s.c := r1
    rw [e] at a2
    have hwd := h.wf.words
    show 1 ≤ rmA s (clsI n).toNat ∧ rmA s (clsI n).toNat ≤ s.ws.length
    omega
  refine ⟨fun x => ?_, hbn, ?_, hle⟩
  · show hasB (Bits.putS _ _ _ _) x = _
    rw [z4, z7]
    have e1 : (mk2 s n).bs = s.bs := r4
    have e2 : (mk2 s n).ws.length = s.ws.length := by show ((rmS s (clsI n).toNat).ws.set _ _).length = _; rw [List.length_set]; exact r3
    rw [e1, e2, putS_has h.born.row (by omega)]
    rfl
  · unfold cls
    rw [mkS_ks, (mkS_rest s n c).1, ← r1]
    exact g2

/-- The law's objects. -/
structure Mad (s : St) (al fl : List Nat) : Prop where
  len : fl.length = al.length
  born : ∀ x ∈ al, bn s x = true
  cl : ∀ i, i < al.length → cls s (al.getD i 0) = (clsI (fl.getD i 0 : Nat)).toNat
  le : ∀ i, i < al.length → fl.getD i 0 ≤ 15
theorem Mad.start (s : St) : Mad s [] [] := ⟨rfl, fun x hx => by (cases hx), fun i hi => by (cases hi), fun i hi => by (cases hi)⟩
theorem Mad.words {s : St} {al fl : List Nat} (h : Mad s al fl) (ws : List Nat) : Mad (ww s ws) al fl := ⟨h.len, h.born, h.cl, h.le⟩
theorem Mad.made {w : World} {H : Nat} {d : Ids} {s : St} {m : Nat} {al fl : List Nat} (hM : Mad s al fl) (h : Is w H d s m) {n : Nat} {c : Int} (he : mkE s n c = 0) : mkA s n ∉ al ∧ Mad (mkS s n c) (al ++ [mkA s n]) (fl ++ [n]) := by
  obtain ⟨h1, h2, h3, h4⟩ := mkE_parts he
  obtain ⟨b1, b2, b3, b4, b5⟩ := mkS_bn h he
  refine ⟨fun hm => (by have := hM.born _ hm; rw [b2] at this; cases this), by simp [hM.len], fun x hx => ?_, fun i hi => ?_, fun i hi => ?_⟩
  · rw [b1]
    rcases List.mem_append.1 hx with hx | hx
    · rw [hM.born x hx, ite_self]
    · rw [List.mem_singleton.1 hx, if_pos rfl]
  · rw [List.length_append, List.length_singleton] at hi
    by_cases e : i < al.length
    · have hx : al.getD i 0 ∈ al := by
        rw [List.getD_eq_getElem?_getD, List.getElem?_eq_getElem e]
        exact List.getElem_mem e
      have e1 : (al ++ [mkA s n]).getD i 0 = al.getD i 0 := by rw [List.getD_eq_getElem?_getD, List.getD_eq_getElem?_getD, List.getElem?_append_left e]
      have e2 : (fl ++ [n]).getD i 0 = fl.getD i 0 := by rw [List.getD_eq_getElem?_getD, List.getD_eq_getElem?_getD, List.getElem?_append_left (by rw [hM.len]; exact e)]
      rw [e1, e2, mkS_cls h.wf n c (h.wf.born _ (hM.born _ hx)).1]
      exact hM.cl i e
    · obtain rfl : i = al.length := by omega
      have e1 : (al ++ [mkA s n]).getD al.length 0 = mkA s n := by simp [List.getD_eq_getElem?_getD]
      have e2 : (fl ++ [n]).getD al.length 0 = n := by rw [← hM.len]; simp [List.getD_eq_getElem?_getD]
      rw [e1, e2]
      exact b3
  · rw [List.length_append, List.length_singleton] at hi
    by_cases e : i < al.length
    · have e2 : (fl ++ [n]).getD i 0 = fl.getD i 0 := by rw [List.getD_eq_getElem?_getD, List.getD_eq_getElem?_getD, List.getElem?_append_left (by rw [hM.len]; exact e)]
      rw [e2]; exact hM.le i e
    · obtain rfl : i = al.length := by omega
      have e2 : (fl ++ [n]).getD al.length 0 = n := by rw [← hM.len]; simp [List.getD_eq_getElem?_getD]
      rw [e2]; omega

/-- A new object's fields while they are looked at, and laid. -/
structure Zf (s : St) (a n k : Nat) (ws : List Nat) : Prop where
  len : ws.length = s.ws.length
  hdr : wdA (ww s ws) a = wdA s a
  zero : ∀ k', k ≤ k' → k' < n → Arena.wd ws (a + k') = 0
theorem Zf.load {s : St} {a n k : Nat} {ws : List Nat} (h : Zf s a n k ws) (hw : Wf (ww s ws)) (hb : bn s a = true) (hn : Hdr.obF (wdA s a) = n) (hk : k < n) : lE (ww s ws) a k = 0 ∧ lV (ww s ws) a k = 0 := by
  obtain ⟨c1, c2, c3, c4, c5, c6⟩ := obj_fields hw (a := a) hb
  rw [h.hdr, hn] at c1
  have h1 : lE (ww s ws) a k = 0 := by rw [lE, if_pos c2, c1, if_pos ⟨by omega, by omega⟩]
  refine ⟨h1, ?_⟩
  rw [lV, if_pos h1, Int.toNat_natCast, Int.toNat_natCast]
  have : fl (ww s ws) a k = 0 := h.zero k (Nat.le_refl _) hk
  rw [this]
  first | decide | kernel_rfl | simp [wrap64]
theorem Zf.store {s : St} {a n k : Nat} {ws : List Nat} (h : Zf s a n k ws) (hw : Wf (ww s ws)) (hb : bn s a = true) (hn : Hdr.obF (wdA s a) = n) (hk : k < n) : sE (ww s ws) a k a = 0 ∧ Zf s a n (k + 1) (ws.set (a + k) a) := by
  obtain ⟨h1, h2⟩ := h.load hw hb hn hk
  obtain ⟨c1, c2, c3, c4, c5, c6⟩ := obj_fields hw (a := a) hb
  refine ⟨by rw [sE, if_pos h1, if_pos (mayV_true.2 ⟨by omega, by omega⟩)], by rw [List.length_set]; exact h.len, ?_, fun k' h3 h4 => ?_⟩
  · rw [← h.hdr]
    show Arena.wd (ws.set (a + k) a) (a - 1) = Arena.wd ws (a - 1)
    rw [Arena.wd_set, if_neg (by omega)]
  · rw [Arena.wd_set, if_neg (by omega)]
    exact h.zero k' (by omega) h4

end Go.Proofs.YtipifkgmhgkleaaGreatDoor.Hp
