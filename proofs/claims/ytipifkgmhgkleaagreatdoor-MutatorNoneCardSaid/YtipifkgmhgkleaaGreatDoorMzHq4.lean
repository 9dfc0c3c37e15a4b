/-
  Texts of the heap, one behind the other: HpP HpQ HpT HpU HpV HpW.
-/
import Derived.Test.YtipifkgmhgkleaaGreatDoorMzHq3
import Derived.Test.YtipifkgmhgkleaaGreatDoorMzHq2
namespace Go.Proofs.YtipifkgmhgkleaaGreatDoor.Hp
open Go.RowKit Go.Shelf
open Class (isB isB_true isB_false is_any sizI sizI_bd roomI SizTab below_drewN)
open Blk (Cfg TbIs TbAt allP valA all_fn all1_told cellsF collect_any kAt)
open Go.Proofs.YtipifkgmhgkleaaGreatDoor.Row (Chg)
open Go.Proofs.YtipifkgmhgkleaaGreatDoor.Addr (Tabs)
attribute [local go_sem] Oper.semAt_some

/-- A function that tells of each address whether something holds. -/
def holdsF (f : Nat) (v : Value) : Value := .func (.func f) #[v] #[]

/-- The slots for which something holds, up to the j-th one. -/
def pk (s : St) (P : Int → Bool) (j : Nat) : List Int := ((List.range j).map (valA s.c s.ks)).filter P
def nSl (s : St) : Nat := (allP s.c s.ks s.ks.length).length
/-- All of them. -/
def pkA (s : St) (P : Int → Bool) : List Int := pk s P (nSl s)

end Go.Proofs.YtipifkgmhgkleaaGreatDoor.Hp

namespace Go.Proofs.YtipifkgmhgkleaaGreatDoor.Hp
open Go.RowKit Go.Shelf
open Class (isB isB_true isB_false is_any sizI sizI_bd roomI SizTab below_drewN)
open Blk (Cfg TbIs allP allP_len valA cellsF collect_any kAt)
open Go.Proofs.YtipifkgmhgkleaaGreatDoor.Row (Chg cellsZ)
open Go.Proofs.YtipifkgmhgkleaaGreatDoor.Addr (Tabs)

/-- A new row of numbers. -/
def NewRow (w : World) (l : List Int) (e : Ending) (w' : World) : Prop := ∃ p cap, e = .returned (.slice p l.length cap) ∧ w'.ownsRow w.heap.size 3 1 (.slice p l.length cap) l.length (cellsZ l) ∧ Below w.heap.size w w'
def objL (s : St) : List Int := pkA s (bnI s)
def hanL (s : St) : List Int := pkA s (fun a => !bnI s a && !frI s a)
end Go.Proofs.YtipifkgmhgkleaaGreatDoor.Hp

namespace Go.Proofs.YtipifkgmhgkleaaGreatDoor.Hp
open Go.RowKit
open Class (isB isB_true isB_false sizI roomI below_drewN)
open Blk (Cfg TbIs kAt)
open Go.Proofs.YtipifkgmhgkleaaGreatDoor.Row (Chg)
open Bits (SetIs)
open Lis (upd upd_same upd_other lastN_rev rev_upd)
open Go.Proofs.YtipifkgmhgkleaaGreatDoor.Addr (Tabs)

/-- What Free tells, and leaves. -/
def frE (s : St) (a : Int) : Int := if bnI s a = true then 0 else 1
def unS (s : St) (a : Nat) : St := { s with bs := Bits.putS (s.ws.length + 1) s.bs a false }
def frS (s : St) (a : Nat) : St := puS (unS s a) a

end Go.Proofs.YtipifkgmhgkleaaGreatDoor.Hp

namespace Go.Proofs.YtipifkgmhgkleaaGreatDoor.Hp
open Go.RowKit Go.Shelf
open Class (isB isB_true isB_false sizI roomI below_drewN)
open Blk (Cfg TbIs kAt cellsF collect_any cellsK)
open Go.Proofs.YtipifkgmhgkleaaGreatDoor.Row (Chg cellsZ)
open Bits (SetIs)
open Go.Proofs.YtipifkgmhgkleaaGreatDoor.Addr (Tabs)

/-- What Color tells. -/
def coE (s : St) (a : Int) : Int := if bnI s a = true then 0 else 1
def coV (s : St) (a : Int) : Int := if bnI s a = true then (if hasB s.os a.toNat = true then 1 else 0) else 0

end Go.Proofs.YtipifkgmhgkleaaGreatDoor.Hp

namespace Go.Proofs.YtipifkgmhgkleaaGreatDoor.Hp
open Go.RowKit
open Class (isB isB_true sizI sizI_bd)
open Blk (Cfg allP seg valA adr perN perN_eq kAt)
open Go.Proofs.YtipifkgmhgkleaaGreatDoor.Row (Chg cellsZ Rd)

theorem adr_in {s : St} (h : Wf s) {k b i : Nat} (hk : k < 4) (hi : i < perN s.c k) : (b : Int) * s.c.wd < adr s.c k b i ∧ adr s.c k b i + sizI k ≤ ((b : Int) + 1) * s.c.wd + 1 := by
  have hRC := Blk.slots_bd h.right
  have hB : isB (k : Int) = true := isB_true.2 ⟨Int.natCast_nonneg k, by omega⟩
  have hp := perN_eq s.c k
  rw [Class.perI_yes hB (Class.wordsB_true.2 ⟨hRC.wd0, hRC.wd1⟩)] at hp
  rw [Int.add_mul, Int.one_mul]
  unfold adr
  rcases siz_four hB with e | e | e | e <;> rw [e] at hp ⊢ <;> omega
theorem seg_sorted {s : St} (b : Nat) (hk : kAt s.ks b < 4) : (seg s.c s.ks b).Pairwise (· < ·) := by
  unfold seg
  rw [List.pairwise_map]
  refine List.Pairwise.imp ?_ List.pairwise_lt_range
  intro i j hij
  have hB : isB ((kAt s.ks b : Nat) : Int) = true := isB_true.2 ⟨Int.natCast_nonneg _, by omega⟩
  unfold adr
  rcases siz_four hB with e | e | e | e <;> rw [e] <;> omega
theorem allP_sorted {s : St} (h : Wf s) (hk : ∀ j, kAt s.ks j < 4) : (allP s.c s.ks s.ks.length).Pairwise (· < ·) := by
  unfold allP
  rw [List.pairwise_flatMap]
  refine ⟨fun b _ => seg_sorted b (hk b), ?_⟩
  refine List.Pairwise.imp ?_ List.pairwise_lt_range
  intro b b' hb x hx y hy
  unfold seg at hx hy
  obtain ⟨i, hi, rfl⟩ := List.mem_map.1 hx
  obtain ⟨j, hj, rfl⟩ := List.mem_map.1 hy
  have h1 := (adr_in (b := b) h (hk b) (List.mem_range.1 hi)).2
  have h2 := (adr_in (b := b') h (hk b') (List.mem_range.1 hj)).1
  have hs := (sizI_bd (isB_true.2 ⟨Int.natCast_nonneg (kAt s.ks b), by have := hk b; omega⟩)).1
  have h3 : ((b : Int) + 1) * s.c.wd ≤ (b' : Int) * s.c.wd := Int.mul_le_mul_of_nonneg_right (by omega) (by have := (Blk.slots_bd h.right).wd0; omega)
  omega
theorem map_valA (s : St) : (List.range (nSl s)).map (valA s.c s.ks) = allP s.c s.ks s.ks.length := by
  apply List.ext_getElem?
  intro i
  rw [List.getElem?_map]
  by_cases h : i < nSl s
  · rw [List.getElem?_range h]
    have h' : i < (allP s.c s.ks s.ks.length).length := h
    show some (valA s.c s.ks i) = _
    unfold valA
    rw [List.getElem?_eq_getElem h', List.getD_eq_getElem?_getD, List.getElem?_eq_getElem h']
    rfl
  · have h' : ¬ i < (allP s.c s.ks s.ks.length).length := h
    rw [List.getElem?_eq_none (by simp; omega), List.getElem?_eq_none (by omega)]
    rfl
theorem pkA_eq (s : St) (P : Int → Bool) : pkA s P = (allP s.c s.ks s.ks.length).filter P := by
  unfold pkA pk
  rw [map_valA]
theorem pkA_sorted {s : St} (h : Wf s) (hk : ∀ j, kAt s.ks j < 4) (P : Int → Bool) : (pkA s P).Pairwise (· < ·) := by
  rw [pkA_eq]
  exact (allP_sorted h hk).filter _
theorem pkA_holds {s : St} {P : Int → Bool} {x : Int} (h : x ∈ pkA s P) : P x = true := by
  rw [pkA_eq] at h
  exact (List.mem_filter.1 h).2

/-- All objects, as numbers. -/
def obA (s : St) (i : Nat) : Nat := ((objL s).getD i 0).toNat
theorem obA_bn {s : St} {i : Nat} (hi : i < (objL s).length) : bn s (obA s i) = true ∧ (objL s).getD i 0 = (obA s i : Int) := by
  have hm : (objL s).getD i 0 ∈ objL s := by
    rw [List.getD_eq_getElem?_getD, List.getElem?_eq_getElem hi]; exact List.getElem_mem hi
  have hb : bnI s ((objL s).getD i 0) = true := pkA_holds hm
  unfold bnI at hb
  rw [Bool.and_eq_true, decide_eq_true_eq] at hb
  exact ⟨hb.2, by unfold obA; omega⟩
theorem obA_inj {s : St} (h : Wf s) (hk : ∀ j, kAt s.ks j < 4) {i j : Nat} (hi : i < (objL s).length) (hj : j < (objL s).length) (e : obA s i = obA s j) : i = j := by
  have h1 := (obA_bn hi).2
  have h2 := (obA_bn hj).2
  rw [e, ← h2, List.getD_eq_getElem?_getD, List.getD_eq_getElem?_getD, List.getElem?_eq_getElem hi, List.getElem?_eq_getElem hj] at h1
  have hp := List.pairwise_iff_getElem.1 (pkA_sorted h hk (bnI s))
  have h1' : (objL s)[i] = (objL s)[j] := h1
  rcases Nat.lt_trichotomy i j with hl | he | hl
  · have := hp i j hi hj hl
    have h3 : (objL s)[i] < (objL s)[j] := this
    omega
  · exact he
  · have := hp j i hj hi hl
    have h3 : (objL s)[j] < (objL s)[i] := this
    omega

/-- The same heap with other words. -/
def ww (s : St) (ws : List Nat) : St := { s with ws := ws }
/-- How many fields the i-th object has. -/
def nf (s : St) (i : Nat) : Nat := Hdr.obF (wdA s (obA s i))
theorem obj_takB {s : St} {a : Nat} (h : Wf s) (hb : bn s a = true) : takB s a = true := by
  unfold takB
  rw [bnI_nat, hb, Int.toNat_natCast, (h.born a hb).2]
  rfl
/-- An object's fields. -/
theorem obj_fields {s : St} {a : Nat} (h : Wf s) (hb : bn s a = true) : fN s a = Hdr.obF (wdA s a) ∧ fE s a = 0 ∧ own s a = true ∧ (Hdr.obF (wdA s a) : Int) + 1 ≤ sizI (cls s a) ∧ 1 ≤ a ∧ a ≤ s.ws.length := by
  have hbd := h.bn_bd hb
  have ht := obj_takB h hb
  have h0 : (a : Int) ≠ 0 := by omega
  obtain ⟨c1, c2, c3, c4, c5⟩ := h.in_arena ht
  rw [Int.toNat_natCast] at c3
  exact ⟨by rw [fN, if_neg h0, if_pos ht, Int.toNat_natCast], by rw [fE, if_neg h0, if_pos ht], c4, c3, hbd.1, hbd.2⟩
theorem obj_field_at {s : St} (h : Wf s) {a b k l : Nat} (ha : bn s a = true) (hb : bn s b = true) (hk : k < Hdr.obF (wdA s a)) (hl : l < Hdr.obF (wdA s b)) (e : a + k = b + l) : a = b ∧ k = l := by
  obtain ⟨_, _, a3, a4, _⟩ := obj_fields h ha
  obtain ⟨_, _, b3, b4, _⟩ := obj_fields h hb
  have := h.apart (a := (a : Int)) (b := (b : Int)) a3 b3 (i := (k : Int) + 1) (j := (l : Int) + 1) (by omega) (by omega) (by omega) (by omega) (by omega)
  omega
end Go.Proofs.YtipifkgmhgkleaaGreatDoor.Hp

namespace Go.Proofs.YtipifkgmhgkleaaGreatDoor.Hp
open Go.RowKit
open Class (isB isB_true sizI sizI_bd)
open Blk (Cfg allP allP_len kAt)

theorem Wf.wdA_field {s : St} (h : Wf s) {a b f v : Nat} (ha : own s a = true) (hb : own s b = true) (hf : (f : Int) + 1 < sizI (cls s a)) : Arena.wd (s.ws.set (a + f) v) (b - 1) = wdA s b := by
  have hp := h.in_ws ha
  rw [show a + f = a - 1 + (f + 1) by omega, h.wdA_set (i := f + 1) ha hb (by omega), if_neg (by omega)]

/-- What is laid so far: all fields of the objects ahead of the i-th one, and its first k. -/
structure Kv (s : St) (ws : List Nat) (i k : Nat) : Prop where
  len : ws.length = s.ws.length
  hdr : ∀ x, bn s x = true → wdA (ww s ws) x = wdA s x
  laid : ∀ i' k', i' < (objL s).length → k' < nf s i' → (i' < i ∨ (i' = i ∧ k' < k)) → Arena.wd ws (obA s i' + k') = obA s ((i' + k') % (objL s).length)
theorem Kv.start (s : St) : Kv s s.ws 0 0 := ⟨rfl, fun _ _ => rfl, fun i' k' _ _ h => by omega⟩
theorem Kv.next {s : St} {ws : List Nat} {i : Nat} (h : Kv s ws i (nf s i)) : Kv s ws (i + 1) 0 :=
  ⟨h.len, h.hdr, fun i' k' h1 h2 h3 => h.laid i' k' h1 h2 (by
    rcases h3 with h3 | h3
    · by_cases e : i' = i
      · subst e; exact .inr ⟨rfl, h2⟩
      · exact .inl (by omega)
    · omega)⟩
/-- An object's fields are as many as they were. -/
theorem Kv.fN {s : St} {ws : List Nat} {i k : Nat} (h : Kv s ws i k) (hw : Wf (ww s ws)) {j : Nat} (hj : j < (objL s).length) : fN (ww s ws) (obA s j) = nf s j ∧ fE (ww s ws) (obA s j) = 0 := by
  have hb := (obA_bn hj).1
  have hb2 : bn (ww s ws) (obA s j) = true := hb
  obtain ⟨h1, h2, _⟩ := obj_fields hw hb2
  exact ⟨by rw [h1, h.hdr _ hb]; rfl, h2⟩
theorem Kv.lE {s : St} {ws : List Nat} {i k : Nat} (h : Kv s ws i k) (hw : Wf (ww s ws)) {j l : Nat} (hj : j < (objL s).length) (hl : l < nf s j) : lE (ww s ws) (obA s j) l = 0 := by
  obtain ⟨h1, h2⟩ := h.fN hw hj
  rw [Hp.lE, if_pos h2, h1, if_pos ⟨by omega, by omega⟩]
theorem Kv.pos {s : St} {ws : List Nat} {i k : Nat} (h : Kv s ws i k) (hw : Wf (ww s ws)) {j l : Nat} (hj : j < (objL s).length) (hl : l < nf s j) : own (ww s ws) (obA s j) = true ∧ (l : Int) + 1 < sizI (cls (ww s ws) (obA s j)) ∧ obA s j + l < ws.length := by
  have hb := (obA_bn hj).1
  have hb2 : bn (ww s ws) (obA s j) = true := hb
  obtain ⟨h1, h2, h3, h4, h5, h6⟩ := obj_fields hw hb2
  rw [h.hdr _ hb] at h4
  have hl' : l < Hdr.obF (wdA s (obA s j)) := hl
  have h7 := (hw.in_ws h3).1
  have : ((ww s ws).ws.length : Int) = (ws.length : Int) := rfl
  exact ⟨h3, by omega, by omega⟩
theorem Kv.apart {s : St} {ws : List Nat} {i k : Nat} (_h : Kv s ws i k) (_hw : Wf (ww s ws)) (h4 : ∀ j, kAt s.ks j < 4) (hws : Wf s) {j l j' l' : Nat} (hj : j < (objL s).length) (hl : l < nf s j) (hj' : j' < (objL s).length) (hl' : l' < nf s j') (e : obA s j + l = obA s j' + l') : j = j' ∧ l = l' := by
  obtain ⟨a1, a2⟩ := obj_field_at hws (obA_bn hj).1 (obA_bn hj').1 hl hl' e
  exact ⟨obA_inj hws h4 hj hj' a1, a2⟩
theorem Kv.step {s : St} {ws : List Nat} {i k : Nat} (h : Kv s ws i k) (hw : Wf (ww s ws)) (h4 : ∀ j, kAt s.ks j < 4) (hws : Wf s) (hi : i < (objL s).length) (hk : k < nf s i) : Kv s (ws.set (obA s i + k) (obA s ((i + k) % (objL s).length))) i (k + 1) := by
  obtain ⟨p1, p2, p3⟩ := h.pos hw hi hk
  refine ⟨by rw [List.length_set]; exact h.len, fun x hx => ?_, fun i' k' h1 h2 h3 => ?_⟩
  · have hx2 : bn (ww s ws) x = true := hx
    have ho := (hw.born x hx2).1
    exact (hw.wdA_field p1 ho p2).trans (h.hdr x hx)
  · rw [Arena.wd_set]
    by_cases e : obA s i + k = obA s i' + k'
    · obtain ⟨rfl, rfl⟩ := h.apart hw h4 hws hi hk h1 h2 e
      rw [if_pos ⟨rfl, p3⟩]
    · rw [if_neg (fun x => e x.1)]
      refine h.laid i' k' h1 h2 ?_
      rcases h3 with h3 | ⟨h3, h5⟩
      · exact .inl h3
      · subst h3
        by_cases e2 : k' = k
        · subst e2; exact absurd rfl e
        · exact .inr ⟨rfl, by omega⟩

/-- What one more store leaves. -/
def ws2 (s : St) (ws : List Nat) (q0 q1 q2 : Int) : List Nat := if sE (ww s ws) q0 q1 q2 = 0 then ws.set (q0.toNat + q1.toNat) q2.toNat else ws
theorem sE_parts {s : St} {q0 q1 q2 : Int} (h : sE s q0 q1 q2 = 0) : takB s q0 = true ∧ 0 ≤ q1 ∧ q1 < (fN s q0 : Int) ∧ fN s q0 = Hdr.obF (wdA s q0.toNat) ∧ 0 ≤ q2 ∧ q2 ≤ (s.ws.length : Int) := by
  have hl : lE s q0 q1 = 0 := by
    unfold sE at h
    split at h
    · assumption
    · rename_i h2; exact absurd h h2
  have hm : mayV s q2 = true := by
    unfold sE at h
    rw [if_pos hl] at h
    split at h
    · assumption
    · omega
  rcases fE_cases s q0 with ⟨a1, a2, a3⟩ | ⟨a1, a3⟩
  · unfold lE at hl
    rw [if_pos a1] at hl
    split at hl
    · rename_i h3
      obtain ⟨m1, m2⟩ := mayV_true.1 hm
      exact ⟨a2, h3.1, h3.2, a3, m1, m2⟩
    · omega
  · unfold lE at hl
    rw [if_neg (by omega)] at hl
    omega
theorem Kv.last {s : St} {ws : List Nat} (h : Kv s ws (objL s).length 0) (hw : Wf (ww s ws)) (q0 q1 q2 : Int) :
    (ws2 s ws q0 q1 q2).length = s.ws.length ∧ (∀ x, bn s x = true → wdA (ww s (ws2 s ws q0 q1 q2)) x = wdA s x) ∧
    ∀ i k, i < (objL s).length → k < nf s i → (Arena.wd (ws2 s ws q0 q1 q2) (obA s i + k) : Int) = if sE (ww s ws) q0 q1 q2 = 0 ∧ (obA s i : Int) = q0 ∧ (k : Int) = q1 then q2 else (obA s ((i + k) % (objL s).length) : Int) := by
  unfold ws2
  by_cases hs : sE (ww s ws) q0 q1 q2 = 0
  · rw [if_pos hs]
    obtain ⟨t1, t2, t3, t4, t5, t6⟩ := sE_parts hs
    obtain ⟨b1, b2, b3, b4, b5⟩ := hw.in_arena t1
    obtain ⟨a, rfl⟩ := Int.eq_ofNat_of_zero_le (show 0 ≤ q0 by omega)
    obtain ⟨f, rfl⟩ := Int.eq_ofNat_of_zero_le t2
    obtain ⟨v, rfl⟩ := Int.eq_ofNat_of_zero_le t5
    simp only [Int.toNat_natCast] at *
    have hf : (f : Int) + 1 < sizI (cls (ww s ws) a) := by omega
    have hin := (hw.in_ws b4).1
    have hlw : ((ww s ws).ws.length : Int) = (ws.length : Int) := rfl
    refine ⟨by rw [List.length_set]; exact h.len, fun x hx => ?_, fun i k hi hk => ?_⟩
    · have hx2 : bn (ww s ws) x = true := hx
      exact (hw.wdA_field b4 (hw.born x hx2).1 hf).trans (h.hdr x hx)
    · obtain ⟨p1, p2, p3⟩ := h.pos hw hi hk
      rw [Arena.wd_set]
      by_cases e : a + f = obA s i + k
      · have := hw.apart (a := (a : Int)) (b := (obA s i : Int)) b4 p1 (i := (f : Int) + 1) (j := (k : Int) + 1) (by omega) (by omega) hf p2 (by omega)
        rw [if_pos ⟨e, p3⟩, if_pos ⟨hs, by omega, by omega⟩]
      · rw [if_neg (fun x => e x.1), if_neg (fun x => by omega), h.laid i k hi hk (.inl hi)]
  · rw [if_neg hs]
    exact ⟨h.len, h.hdr, fun i k hi hk => by rw [if_neg (fun x => hs x.1), h.laid i k hi hk (.inl hi)]⟩
end Go.Proofs.YtipifkgmhgkleaaGreatDoor.Hp
