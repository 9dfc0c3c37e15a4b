/-
  The slots in their order: each address once; fields of objects lie apart.
-/
import Derived.Test.YtcoolapancdioaaGreatDoorHpQ
import Derived.Test.YtcoolapancdioaaGreatDoorHpO
namespace Go.Proofs.YtcoolapancdioaaGreatDoor.Hp
open Go.RowKit
open Class (isB isB_true sizI sizI_bd)
open Blk (Cfg allP seg valA adr perN perN_eq kAt)
open Go.Proofs.YtcoolapancdioaaGreatDoor.Row (Chg cellsZ Rd)

theorem adr_in {s : St} (h : Wf s) {k b i : Nat} (hk : k < 4) (hi : i < perN s.c k) : (b : Int) * s.c.wd < adr s.c k b i ∧ adr s.c k b i + sizI k ≤ ((b : Int) + 1) * s.c.wd + 1 := by
  have hRC := Blk.slots_bd h.right
  have hB : isB (k : Int) = true := isB_true.2 ⟨Int.natCast_nonneg k, by omega⟩
  have hp := perN_eq s.c k
  rw [Class.perI_yes hB (Class.wordsB_true.2 ⟨hRC.wd0, hRC.wd1⟩)] at hp
  rw [Int.add_mul, Int.one_mul]
  unfold adr
  rcases siz_four hB with e | e | e | e <;> rw [e] at hp ⊢ <;> omega
theorem seg_sorted {s : St} (b : Nat) (hk : kAt s.ks b < 4) : (seg s.c s.ks b).Pairwise (· < ·) := by
  unfold seg
  rw [List.pairwise_map]
  refine List.Pairwise.imp ?_ List.pairwise_lt_range
  intro i j hij
  have hB : isB ((kAt s.ks b : Nat) : Int) = true := isB_true.2 ⟨Int.natCast_nonneg _, by omega⟩
  unfold adr
  rcases siz_four hB with e | e | e | e <;> rw [e] <;> omega
theorem allP_sorted {s : St} (h : Wf s) (hk : ∀ j, kAt s.ks j < 4) : (allP s.c s.ks s.ks.length).Pairwise (· < ·) := by
  unfold allP
  rw [List.pairwise_flatMap]
  refine ⟨fun b _ => seg_sorted b (hk b), ?_⟩
  refine List.Pairwise.imp ?_ List.pairwise_lt_range
  intro b b' hb x hx y hy
  unfold seg at hx hy
  obtain ⟨i, hi, rfl⟩ := List.mem_map.1 hx
  obtain ⟨j, hj, rfl⟩ := List.mem_map.1 hy
  have h1 := (adr_in (b := b) h (hk b) (List.mem_range.1 hi)).2
  have h2 := (adr_in (b := b') h (hk b') (List.mem_range.1 hj)).1
  have hs := (sizI_bd (isB_true.2 ⟨Int.natCast_nonneg (kAt s.ks b), by have := hk b; omega⟩)).1
  have h3 : ((b : Int) + 1) * s.c.wd ≤ (b' : Int) * s.c.wd := Int.mul_le_mul_of_nonneg_right (by omega) (by have := (Blk.slots_bd h.right).wd0; omega)
  omega
theorem map_valA (s : St) : (List.range (nSl s)).map (valA s.c s.ks) = allP s.c s.ks s.ks.length := by
  apply List.ext_getElem?
  intro i
  rw [List.getElem?_map]
  by_cases h : i < nSl s
  · rw [List.getElem?_range h]
    have h' : i < (allP s.c s.ks s.ks.length).length := h
    show some (valA s.c s.ks i) = _
    unfold valA
    rw [List.getElem?_eq_getElem h', List.getD_eq_getElem?_getD, List.getElem?_eq_getElem h']
    rfl
  · have h' : ¬ i < (allP s.c s.ks s.ks.length).length := h
    rw [List.getElem?_eq_none (by simp; omega), List.getElem?_eq_none (by omega)]
    rfl
theorem pkA_eq (s : St) (P : Int → Bool) : pkA s P = (allP s.c s.ks s.ks.length).filter P := by
  unfold pkA pk
  rw [map_valA]
theorem pkA_sorted {s : St} (h : Wf s) (hk : ∀ j, kAt s.ks j < 4) (P : Int → Bool) : (pkA s P).Pairwise (· < ·) := by
  rw [pkA_eq]
  exact (allP_sorted h hk).filter _
theorem pkA_holds {s : St} {P : Int → Bool} {x : Int} (h : x ∈ pkA s P) : P x = true := by
  rw [pkA_eq] at h
  exact (List.mem_filter.1 h).2

/-- All objects, as numbers. -/
def obA (s : St) (i : Nat) : Nat := ((objL s).getD i 0).toNat
theorem obA_bn {s : St} {i : Nat} (hi : i < (objL s).length) : bn s (obA s i) = true ∧ (objL s).getD i 0 = (obA s i : Int) := by
  have hm : (objL s).getD i 0 ∈ objL s := by
    rw [List.getD_eq_getElem?_getD, List.getElem?_eq_getElem hi]; exact List.getElem_mem hi
  have hb : bnI s ((objL s).getD i 0) = true := pkA_holds hm
  unfold bnI at hb
  rw [Bool.and_eq_true, decide_eq_true_eq] at hb
  exact ⟨hb.2, by unfold obA; omega⟩
theorem obA_inj {s : St} (h : Wf s) (hk : ∀ j, kAt s.ks j < 4) {i j : Nat} (hi : i < (objL s).length) (hj : j < (objL s).length) (e : obA s i = obA s j) : i = j := by
  have h1 := (obA_bn hi).2
  have h2 := (obA_bn hj).2
  rw [e, ← h2, List.getD_eq_getElem?_getD, List.getD_eq_getElem?_getD, List.getElem?_eq_getElem hi, List.getElem?_eq_getElem hj] at h1
  have hp := List.pairwise_iff_getElem.1 (pkA_sorted h hk (bnI s))
  have h1' : (objL s)[i] = (objL s)[j] := h1
  rcases Nat.lt_trichotomy i j with hl | he | hl
  · have := hp i j hi hj hl
    have h3 : (objL s)[i] < (objL s)[j] := this
    omega
  · exact he
  · have := hp j i hj hi hl
    have h3 : (objL s)[j] < (objL s)[i] := this
    omega

/-- The same heap with other words. -/
def ww (s : St) (ws : List Nat) : St := { s with ws := ws }
/-- How many fields the i-th object has. -/
def nf (s : St) (i : Nat) : Nat := Hdr.obF (wdA s (obA s i))
theorem obj_takB {s : St} {a : Nat} (h : Wf s) (hb : bn s a = true) : takB s a = true := by
  unfold takB
  rw [bnI_nat, hb, Int.toNat_natCast, (h.born a hb).2]
  rfl
/-- An object's fields. -/
theorem obj_fields {s : St} {a : Nat} (h : Wf s) (hb : bn s a = true) : fN s a = Hdr.obF (wdA s a) ∧ fE s a = 0 ∧ own s a = true ∧ (Hdr.obF (wdA s a) : Int) + 1 ≤ sizI (cls s a) ∧ 1 ≤ a ∧ a ≤ s.ws.length := by
  have hbd := h.bn_bd hb
  have ht := obj_takB h hb
  have h0 : (a : Int) ≠ 0 := by omega
  obtain ⟨c1, c2, c3, c4, c5⟩ := h.in_arena ht
  rw [Int.toNat_natCast] at c3
  exact ⟨by rw [fN, if_neg h0, if_pos ht, Int.toNat_natCast], by rw [fE, if_neg h0, if_pos ht], c4, c3, hbd.1, hbd.2⟩
theorem obj_field_at {s : St} (h : Wf s) {a b k l : Nat} (ha : bn s a = true) (hb : bn s b = true) (hk : k < Hdr.obF (wdA s a)) (hl : l < Hdr.obF (wdA s b)) (e : a + k = b + l) : a = b ∧ k = l := by
  obtain ⟨_, _, a3, a4, _⟩ := obj_fields h ha
  obtain ⟨_, _, b3, b4, _⟩ := obj_fields h hb
  have := h.apart (a := (a : Int)) (b := (b : Int)) a3 b3 (i := (k : Int) + 1) (j := (l : Int) + 1) (by omega) (by omega) (by omega) (by omega) (by omega)
  omega
end Go.Proofs.YtcoolapancdioaaGreatDoor.Hp
