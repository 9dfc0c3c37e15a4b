/-
  The law QueueTurns answers true, for every row of classes.
-/
import Derived.Test.YtadkmidipjlcjaaQuC
namespace Go.Proofs.Ytadkmidipjlcjaa.Qu
open Go.RowKit
open Go.Proofs.Ytadkmidipjlcjaa.Row

/-- The bytes of a row that came in, below S. -/
def BytesP (S : Nat) (W : World) (p : Option Addr) (zs : List Nat) : Prop := ∀ j, j < zs.length → ∃ b off, p = some ⟨b, off, none⟩ ∧ b < S ∧ zs.getD j 0 < 256 ∧ W.cell? ⟨b, off + j, none⟩ = some (.int .u8 ((zs.getD j 0 : Nat) : Int))
theorem BytesP.below {S : Nat} {W W' : World} {p : Option Addr} {zs : List Nat} (h : BytesP S W p zs) (hb : Below S W W') : BytesP S W' p zs := fun j hj => by
  obtain ⟨b, off, e, hb', h8, hc⟩ := h j hj
  exact ⟨b, off, e, hb', h8, (hb.cell (p := ⟨b, off + j, none⟩) hb').trans hc⟩

/-- What is in the rows: numbers below N, each in its class's row, rising; so many in all. -/
structure Tn (l : List Nat) (N i : Nat) (rv : Nat → List Int) : Prop where
  len : nAll rv = i
  mem : ∀ k, k < 4 → ∀ x, x ∈ rv k → ∃ j : Nat, j < N ∧ x = (j : Int) ∧ l.getD j 0 % 4 = k
  inc : ∀ k, k < 4 → (rv k).Pairwise (· < ·)
theorem nAll_upd (rv : Nat → List Int) {k : Nat} (hk : k < 4) (l : List Int) : nAll (upd rv k l) + (rv k).length = nAll rv + l.length := by
  unfold nAll upd
  match k, hk with
  | 0, _ => simp; omega
  | 1, _ => simp; omega
  | 2, _ => simp; omega
  | 3, _ => simp; omega
theorem nAll_le (rv : Nat → List Int) {k : Nat} (hk : k < 4) : (rv k).length ≤ nAll rv := by
  unfold nAll
  match k, hk with
  | 0, _ => omega
  | 1, _ => omega
  | 2, _ => omega
  | 3, _ => omega
theorem Tn.nil (l : List Nat) (N : Nat) : Tn l N 0 (fun _ => []) := ⟨rfl, fun _ _ _ h => by simp at h, fun _ _ => List.Pairwise.nil⟩
theorem Tn.put {l : List Nat} {i : Nat} {rv : Nat → List Int} (h : Tn l i i rv) {k : Nat} (hk : k < 4) (hc : l.getD i 0 % 4 = k) : Tn l (i + 1) (i + 1) (upd rv k (rv k ++ [(i : Int)])) := by
  refine ⟨?_, fun j hj x hx => ?_, fun j hj => ?_⟩
  · have := nAll_upd rv hk (rv k ++ [(i : Int)])
    have := h.len
    rw [List.length_append, List.length_singleton] at *
    omega
  · by_cases e : j = k
    · subst e
      rw [upd_same] at hx
      rcases List.mem_append.1 hx with hx | hx
      · obtain ⟨a, h1, h2, h3⟩ := h.mem j hj x hx
        exact ⟨a, by omega, h2, h3⟩
      · exact ⟨i, by omega, List.mem_singleton.1 hx, hc⟩
    · rw [upd_other _ _ e] at hx
      obtain ⟨a, h1, h2, h3⟩ := h.mem j hj x hx
      exact ⟨a, by omega, h2, h3⟩
  · by_cases e : j = k
    · subst e
      rw [upd_same, List.pairwise_append]
      refine ⟨h.inc j hj, List.pairwise_singleton .., fun a ha b hb => ?_⟩
      obtain ⟨q, h1, h2, _⟩ := h.mem j hj a ha
      rw [List.mem_singleton.1 hb, h2]
      omega
    · rw [upd_other _ _ e]; exact h.inc j hj
theorem Tn.take {l : List Nat} {N i : Nat} {rv : Nat → List Int} (h : Tn l N (i + 1) rv) {k : Nat} (hk : k < 4) {x : Int} {t : List Int} (he : rv k = x :: t) : Tn l N i (upd rv k t) := by
  refine ⟨?_, fun j hj y hy => ?_, fun j hj => ?_⟩
  · have := nAll_upd rv hk t
    have := h.len
    rw [he, List.length_cons] at *
    omega
  · by_cases e : j = k
    · subst e
      rw [upd_same] at hy
      exact h.mem j hj y (by rw [he]; exact List.mem_cons_of_mem _ hy)
    · rw [upd_other _ _ e] at hy
      exact h.mem j hj y hy
  · by_cases e : j = k
    · subst e
      rw [upd_same]
      have := h.inc j hj
      rw [he] at this
      exact (List.pairwise_cons.1 this).2
    · rw [upd_other _ _ e]; exact h.inc j hj
/-- The least class that has one. -/
theorem least_some {rv : Nat → List Int} (h : nAll rv ≠ 0) : ∃ k x t, k < 4 ∧ rv k = x :: t ∧ ∀ j, j < k → rv j = [] := by
  have hx : ¬ ∀ k, k < 4 → rv k = [] := fun e => h ((nAll_zero rv).2 e)
  by_cases h0 : rv 0 = []
  · by_cases h1 : rv 1 = []
    · by_cases h2 : rv 2 = []
      · by_cases h3 : rv 3 = []
        · exact absurd (fun k hk => by
            match k, hk with
            | 0, _ => exact h0
            | 1, _ => exact h1
            | 2, _ => exact h2
            | 3, _ => exact h3) hx
        · obtain ⟨x, t, e⟩ := List.exists_cons_of_ne_nil h3
          exact ⟨3, x, t, by decide, e, fun j hj => by
            match j, hj with
            | 0, _ => exact h0
            | 1, _ => exact h1
            | 2, _ => exact h2⟩
      · obtain ⟨x, t, e⟩ := List.exists_cons_of_ne_nil h2
        exact ⟨2, x, t, by decide, e, fun j hj => by
          match j, hj with
          | 0, _ => exact h0
          | 1, _ => exact h1⟩
    · obtain ⟨x, t, e⟩ := List.exists_cons_of_ne_nil h1
      exact ⟨1, x, t, by decide, e, fun j hj => by
        match j, hj with
        | 0, _ => exact h0⟩
  · obtain ⟨x, t, e⟩ := List.exists_cons_of_ne_nil h0
    exact ⟨0, x, t, by decide, e, fun j hj => absurd hj (Nat.not_lt_zero j)⟩
/-- What was told last stands ahead of what is left. -/
structure Behind (rv : Nat → List Int) (last : Int) (lc : Nat) : Prop where
  lt : lc < 4
  gone : ∀ k, k < lc → rv k = []
  more : ∀ x, x ∈ rv lc → last < x
theorem Behind.step {l : List Nat} {N i : Nat} {rv : Nat → List Int} (h : Tn l N (i + 1) rv) {k : Nat} (hk : k < 4) {x : Int} {t : List Int} (he : rv k = x :: t) (hn : ∀ j, j < k → rv j = []) : Behind (upd rv k t) x k :=
  ⟨hk, fun j hj => by rw [upd_other _ _ (by omega)]; exact hn j hj, fun y hy => by
    rw [upd_same] at hy
    have := h.inc k hk
    rw [he] at this
    exact (List.pairwise_cons.1 this).1 y hy⟩

end Go.Proofs.Ytadkmidipjlcjaa.Qu
