/-
  Plain: how often one stands in a row, who is missing, windows, rows that are fair, their gap.
-/
import Derived.Test.YthofknjdmfpbeaaRowB
namespace Go.Proofs.Ythofknjdmfpbeaa.Fa

/-- How many of those below n are not in a row. -/
def mis : Nat → List Int → Nat
  | 0, _ => 0
  | n + 1, W => mis n W + if W.count ((n : Nat) : Int) = 0 then 1 else 0
theorem mis_out {n : Nat} {x : Int} (W : List Int) (h : x < 0 ∨ (n : Int) ≤ x) : mis n (x :: W) = mis n W := by
  induction n with
  | zero => rfl
  | succ n ih =>
    have hne : ¬ x = (n : Int) := by omega
    simp only [mis]
    rw [ih (by omega)]
    simp [hne]
theorem mis_in {n p : Nat} (W : List Int) (h : p < n) : mis n ((p : Int) :: W) + (if W.count (p : Int) = 0 then 1 else 0) = mis n W := by
  induction n with
  | zero => omega
  | succ n ih =>
    simp only [mis]
    by_cases e : p = n
    · subst e
      rw [mis_out W (.inr (Int.le_refl _))]
      simp
    · have := ih (by omega)
      have hne : ¬ (p : Int) = (n : Int) := by omega
      simp only [List.count_cons, beq_iff_eq, hne, if_false, Nat.add_zero]
      omega
theorem mis_perm {n : Nat} {V W : List Int} (h : V.Perm W) : mis n V = mis n W := by
  induction n with
  | zero => rfl
  | succ n ih => simp only [mis, ih, h.count_eq]
theorem mis_le (n : Nat) (W : List Int) : mis n W ≤ n := by
  induction n with
  | zero => exact Nat.le_refl _
  | succ n ih => simp only [mis]; split <;> omega
theorem mis_nil (n : Nat) : mis n [] = n := by
  induction n with
  | zero => rfl
  | succ n ih => simp [mis, ih]
theorem mis_zero {n : Nat} {W : List Int} : mis n W = 0 ↔ ∀ p : Nat, p < n → (p : Int) ∈ W := by
  induction n with
  | zero => simp [mis]
  | succ n ih =>
    simp only [mis, Nat.add_eq_zero_iff, ih]
    constructor
    · rintro ⟨h1, h2⟩ p hp
      by_cases e : p = n
      · subst e
        by_cases hc : W.count ((p : Nat) : Int) = 0
        · simp [hc] at h2
        · exact List.count_pos_iff.1 (by omega)
      · exact h1 p (by omega)
    · intro h
      refine ⟨fun p hp => h p (by omega), ?_⟩
      have := List.count_pos_iff.2 (h n (by omega))
      rw [if_neg (by omega)]

/-- So many, from a place on. -/
def win (l : List Int) (i k : Nat) : List Int := (l.drop i).take k
theorem win_len {l : List Int} {i k : Nat} (h : i + k ≤ l.length) : (win l i k).length = k := by simp [win]; omega
theorem win_at {l : List Int} {i k j : Nat} (hj : j < k) : (win l i k).getD j 0 = l.getD (i + j) 0 := by
  simp only [win, List.getD_eq_getElem?_getD, List.getElem?_take, hj, if_true, List.getElem?_drop]
theorem win_head {l : List Int} {i k : Nat} (h : i + (k + 1) ≤ l.length) : win l i (k + 1) = l.getD i 0 :: win l (i + 1) k := by
  have h1 : i < l.length := by omega
  unfold win
  rw [List.drop_eq_getElem_cons h1, List.take_succ_cons, List.getD_eq_getElem?_getD, List.getElem?_eq_getElem h1]
  rfl
theorem win_last {l : List Int} {i k : Nat} (h : i + (k + 1) ≤ l.length) : win l i (k + 1) = win l i k ++ [l.getD (i + k) 0] := by
  have h1 : i + k < l.length := by omega
  unfold win
  rw [List.take_add_one, List.getElem?_drop, List.getD_eq_getElem?_getD, List.getElem?_eq_getElem h1]
  rfl
theorem win_mem {l : List Int} {i k : Nat} {x : Int} : x ∈ win l i k ↔ ∃ j, j < k ∧ i + j < l.length ∧ l.getD (i + j) 0 = x := by
  simp only [win, List.mem_iff_getElem?, List.getElem?_take, List.getElem?_drop]
  constructor
  · rintro ⟨j, hj⟩
    by_cases hjk : j < k
    · simp only [hjk, if_true] at hj
      obtain ⟨h1, h2⟩ := List.getElem?_eq_some_iff.1 hj
      exact ⟨j, hjk, h1, by simp [List.getD_eq_getElem?_getD, hj]⟩
    · simp [hjk] at hj
  · rintro ⟨j, hj, h1, h2⟩
    refine ⟨j, ?_⟩
    simp only [hj, if_true]
    rw [List.getElem?_eq_getElem h1, ← h2]
    simp [List.getD_eq_getElem?_getD, List.getElem?_eq_getElem h1]

/-- Is each below n in each window of k, one behind the other? -/
def fair (l : List Int) (n k : Nat) : Bool := (List.range (l.length + 1 - k)).all fun i => decide (mis n (win l i k) = 0)
theorem fair_iff {l : List Int} {n k : Nat} : fair l n k = true ↔ ∀ i, i + k ≤ l.length → ∀ p : Nat, p < n → (p : Int) ∈ win l i k := by
  simp only [fair, List.all_eq_true, List.mem_range, decide_eq_true_eq, mis_zero]
  constructor
  · intro h i hi; exact h i (by omega)
  · intro h i hi; exact h i (by omega)
theorem fair_long {l : List Int} {n k : Nat} (h : l.length < k) : fair l n k = true := fair_iff.2 fun i hi => by omega
theorem fair_more {l : List Int} {n k k' : Nat} (h : fair l n k = true) (hk : k ≤ k') : fair l n k' = true := fair_iff.2 fun i hi p hp => by
  obtain ⟨j, h1, h2, h3⟩ := win_mem.1 (fair_iff.1 h i (by omega) p hp)
  exact win_mem.2 ⟨j, by omega, h2, h3⟩

/-- One that is missing, where there are more than places. -/
theorem pigeon (n : Nat) : ∀ W : List Int, W.length < n → ∃ p : Nat, p < n ∧ (p : Int) ∉ W := by
  induction n with
  | zero => intro W h; omega
  | succ n ih =>
    intro W h
    by_cases hm : (n : Int) ∈ W
    · obtain ⟨p, hp, hn⟩ := ih (W.erase (n : Int)) (by rw [List.length_erase_of_mem hm]; have := List.length_pos_of_mem hm; omega)
      exact ⟨p, by omega, fun e => hn ((List.mem_erase_of_ne (by simp; omega)).2 e)⟩
    · exact ⟨n, by omega, hm⟩
theorem fair_short {l : List Int} {n k : Nat} (h : k ≤ l.length) (hn : k < n) : fair l n k = false := by
  cases hf : fair l n k with
  | false => rfl
  | true =>
    obtain ⟨p, hp, hx⟩ := pigeon n (win l 0 k) (by rw [win_len (by omega)]; exact hn)
    exact absurd (fair_iff.1 hf 0 (by omega) p hp) hx

/-- What Fair tells. -/
def fairI (l : List Int) (n k : Int) : Bool := decide (1 ≤ n) && decide (1 ≤ k) && fair l n.toNat k.toNat
/-- A number from which on all is true, at or below a bound, that is the least such. -/
structure Least (f : Nat → Bool) (N g : Nat) : Prop where
  le : g ≤ N
  lo : ∀ j, j < g → f j = false
  hi : g < N → f g = true
theorem Least.uniq {f : Nat → Bool} {N g g' : Nat} (h : Least f N g) (h' : Least f N g') : g = g' := by
  rcases Nat.lt_trichotomy g g' with e | e | e
  · have := h'.lo g e
    rw [h.hi (by have := h'.le; omega)] at this
    cases this
  · exact e
  · have := h.lo g' e
    rw [h'.hi (by have := h.le; omega)] at this
    cases this
/-- A row's gap, less one. -/
def Gap (l : List Int) (n g : Nat) : Prop := Least (fun j => fair l n (j + 1)) l.length g
end Go.Proofs.Ythofknjdmfpbeaa.Fa
