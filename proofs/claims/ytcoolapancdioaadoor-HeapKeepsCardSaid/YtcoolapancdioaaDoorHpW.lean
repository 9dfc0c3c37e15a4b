/-
  What the law HeapKeeps lays into objects' fields.
-/
import Derived.Test.YtcoolapancdioaaDoorHpV
namespace Go.Proofs.YtcoolapancdioaaDoor.Hp
open Go.RowKit
open Class (isB isB_true sizI sizI_bd)
open Blk (Cfg allP allP_len kAt)

theorem Wf.wdA_field {s : St} (h : Wf s) {a b f v : Nat} (ha : own s a = true) (hb : own s b = true) (hf : (f : Int) + 1 < sizI (cls s a)) : Arena.wd (s.ws.set (a + f) v) (b - 1) = wdA s b := by
  have hp := h.in_ws ha
  rw [show a + f = a - 1 + (f + 1) by omega, h.wdA_set (i := f + 1) ha hb (by omega), if_neg (by omega)]

/-- What is laid so far: all fields of the objects ahead of the i-th one, and its first k. -/
structure Kv (s : St) (ws : List Nat) (i k : Nat) : Prop where
  len : ws.length = s.ws.length
  hdr : ∀ x, bn s x = true → wdA (ww s ws) x = wdA s x
  laid : ∀ i' k', i' < (objL s).length → k' < nf s i' → (i' < i ∨ (i' = i ∧ k' < k)) → Arena.wd ws (obA s i' + k') = obA s ((i' + k') % (objL s).length)
theorem Kv.start (s : St) : Kv s s.ws 0 0 := ⟨rfl, fun _ _ => rfl, fun i' k' _ _ h => by omega⟩
theorem Kv.next {s : St} {ws : List Nat} {i : Nat} (h : Kv s ws i (nf s i)) : Kv s ws (i + 1) 0 :=
  ⟨h.len, h.hdr, fun i' k' h1 h2 h3 => h.laid i' k' h1 h2 (by
    rcases h3 with h3 | h3
    · by_cases e : i' = i
      · subst e; exact .inr ⟨rfl, h2⟩
      · exact .inl (by omega)
    · omega)⟩
/-- An object's fields are as many as they were. -/
theorem Kv.fN {s : St} {ws : List Nat} {i k : Nat} (h : Kv s ws i k) (hw : Wf (ww s ws)) {j : Nat} (hj : j < (objL s).length) : fN (ww s ws) (obA s j) = nf s j ∧ fE (ww s ws) (obA s j) = 0 := by
  have hb := (obA_bn hj).1
  have hb2 : bn (ww s ws) (obA s j) = true := hb
  obtain ⟨h1, h2, _⟩ := obj_fields hw hb2
  exact ⟨by rw [h1, h.hdr _ hb]; rfl, h2⟩
theorem Kv.lE {s : St} {ws : List Nat} {i k : Nat} (h : Kv s ws i k) (hw : Wf (ww s ws)) {j l : Nat} (hj : j < (objL s).length) (hl : l < nf s j) : lE (ww s ws) (obA s j) l = 0 := by
  obtain ⟨h1, h2⟩ := h.fN hw hj
  rw [Hp.lE, if_pos h2, h1, if_pos ⟨by omega, by omega⟩]
theorem Kv.pos {s : St} {ws : List Nat} {i k : Nat} (h : Kv s ws i k) (hw : Wf (ww s ws)) {j l : Nat} (hj : j < (objL s).length) (hl : l < nf s j) : own (ww s ws) (obA s j) = true ∧ (l : Int) + 1 < sizI (cls (ww s ws) (obA s j)) ∧ obA s j + l < ws.length := by
  have hb := (obA_bn hj).1
  have hb2 : bn (ww s ws) (obA s j) = true := hb
  obtain ⟨h1, h2, h3, h4, h5, h6⟩ := obj_fields hw hb2
  rw [h.hdr _ hb] at h4
  have hl' : l < Hdr.obF (wdA s (obA s j)) := hl
  have h7 := (hw.in_ws h3).1
  have : ((ww s ws).ws.length : Int) = (ws.length : Int) := rfl
  exact ⟨h3, by omega, by omega⟩
theorem Kv.apart {s : St} {ws : List Nat} {i k : Nat} (h : Kv s ws i k) (hw : Wf (ww s ws)) (h4 : ∀ j, kAt s.ks j < 4) (hws : Wf s) {j l j' l' : Nat} (hj : j < (objL s).length) (hl : l < nf s j) (hj' : j' < (objL s).length) (hl' : l' < nf s j') (e : obA s j + l = obA s j' + l') : j = j' ∧ l = l' := by
  obtain ⟨a1, a2⟩ := obj_field_at hws (obA_bn hj).1 (obA_bn hj').1 hl hl' e
  exact ⟨obA_inj hws h4 hj hj' a1, a2⟩
theorem Kv.step {s : St} {ws : List Nat} {i k : Nat} (h : Kv s ws i k) (hw : Wf (ww s ws)) (h4 : ∀ j, kAt s.ks j < 4) (hws : Wf s) (hi : i < (objL s).length) (hk : k < nf s i) : Kv s (ws.set (obA s i + k) (obA s ((i + k) % (objL s).length))) i (k + 1) := by
  obtain ⟨p1, p2, p3⟩ := h.pos hw hi hk
  refine ⟨by rw [List.length_set]; exact h.len, fun x hx => ?_, fun i' k' h1 h2 h3 => ?_⟩
  · have hx2 : bn (ww s ws) x = true := hx
    have ho := (hw.born x hx2).1
    exact (hw.wdA_field p1 ho p2).trans (h.hdr x hx)
  · rw [Arena.wd_set]
    by_cases e : obA s i + k = obA s i' + k'
    · obtain ⟨rfl, rfl⟩ := h.apart hw h4 hws hi hk h1 h2 e
      rw [if_pos ⟨rfl, p3⟩]
    · rw [if_neg (fun x => e x.1)]
      refine h.laid i' k' h1 h2 ?_
      rcases h3 with h3 | ⟨h3, h5⟩
      · exact .inl h3
      · subst h3
        by_cases e2 : k' = k
        · subst e2; exact absurd rfl e
        · exact .inr ⟨rfl, by omega⟩

/-- What one more store leaves. -/
def ws2 (s : St) (ws : List Nat) (q0 q1 q2 : Int) : List Nat := if sE (ww s ws) q0 q1 q2 = 0 then ws.set (q0.toNat + q1.toNat) q2.toNat else ws
theorem sE_parts {s : St} {q0 q1 q2 : Int} (h : sE s q0 q1 q2 = 0) : takB s q0 = true ∧ 0 ≤ q1 ∧ q1 < (fN s q0 : Int) ∧ fN s q0 = Hdr.obF (wdA s q0.toNat) ∧ 0 ≤ q2 ∧ q2 ≤ (s.ws.length : Int) := by
  have hl : lE s q0 q1 = 0 := by
    unfold sE at h
    split at h
    · assumption
    · rename_i h2; exact absurd h h2
  have hm : mayV s q2 = true := by
    unfold sE at h
    rw [if_pos hl] at h
    split at h
    · assumption
    · omega
  rcases fE_cases s q0 with ⟨a1, a2, a3⟩ | ⟨a1, a3⟩
  · unfold lE at hl
    rw [if_pos a1] at hl
    split at hl
    · rename_i h3
      obtain ⟨m1, m2⟩ := mayV_true.1 hm
      exact ⟨a2, h3.1, h3.2, a3, m1, m2⟩
    · omega
  · unfold lE at hl
    rw [if_neg (by omega)] at hl
    omega
theorem Kv.last {s : St} {ws : List Nat} (h : Kv s ws (objL s).length 0) (hw : Wf (ww s ws)) (q0 q1 q2 : Int) :
    (ws2 s ws q0 q1 q2).length = s.ws.length ∧ (∀ x, bn s x = true → wdA (ww s (ws2 s ws q0 q1 q2)) x = wdA s x) ∧
    ∀ i k, i < (objL s).length → k < nf s i → (Arena.wd (ws2 s ws q0 q1 q2) (obA s i + k) : Int) = if sE (ww s ws) q0 q1 q2 = 0 ∧ (obA s i : Int) = q0 ∧ (k : Int) = q1 then q2 else (obA s ((i + k) % (objL s).length) : Int) := by
  unfold ws2
  by_cases hs : sE (ww s ws) q0 q1 q2 = 0
  · rw [if_pos hs]
    obtain ⟨t1, t2, t3, t4, t5, t6⟩ := sE_parts hs
    obtain ⟨b1, b2, b3, b4, b5⟩ := hw.in_arena t1
    obtain ⟨a, rfl⟩ := Int.eq_ofNat_of_zero_le (show 0 ≤ q0 by omega)
    obtain ⟨f, rfl⟩ := Int.eq_ofNat_of_zero_le t2
    obtain ⟨v, rfl⟩ := Int.eq_ofNat_of_zero_le t5
    simp only [Int.toNat_natCast] at *
    have hf : (f : Int) + 1 < sizI (cls (ww s ws) a) := by omega
    have hin := (hw.in_ws b4).1
    have hlw : ((ww s ws).ws.length : Int) = (ws.length : Int) := rfl
    refine ⟨by rw [List.length_set]; exact h.len, fun x hx => ?_, fun i k hi hk => ?_⟩
    · have hx2 : bn (ww s ws) x = true := hx
      exact (hw.wdA_field b4 (hw.born x hx2).1 hf).trans (h.hdr x hx)
    · obtain ⟨p1, p2, p3⟩ := h.pos hw hi hk
      rw [Arena.wd_set]
      by_cases e : a + f = obA s i + k
      · have := hw.apart (a := (a : Int)) (b := (obA s i : Int)) b4 p1 (i := (f : Int) + 1) (j := (k : Int) + 1) (by omega) (by omega) hf p2 (by omega)
        rw [if_pos ⟨e, p3⟩, if_pos ⟨hs, by omega, by omega⟩]
      · rw [if_neg (fun x => e x.1), if_neg (fun x => by omega), h.laid i k hi hk (.inl hi)]
  · rw [if_neg hs]
    exact ⟨h.len, h.hdr, fun i k hi hk => by rw [if_neg (fun x => hs x.1), h.laid i k hi hk (.inl hi)]⟩
theorem objL_len {s : St} : (objL s).length ≤ 128 * s.ks.length := by
  have h1 : (objL s).length ≤ nSl s := by
    unfold objL pkA pk
    refine Nat.le_trans (List.length_filter_le _ _) ?_
    simp
  exact Nat.le_trans h1 (allP_len s.c s.ks s.ks.length)
theorem obA_le {s : St} (h : Wf s) {i : Nat} (hi : i < (objL s).length) : obA s i ≤ s.ws.length := (h.bn_bd (obA_bn hi).1).2
theorem wrap_small {n : Nat} (h : n ≤ 1048576) : wrap64 (n : Int) = (n : Int) := by
  unfold wrap64
  omega
end Go.Proofs.YtcoolapancdioaaDoor.Hp
