/-
  Plain arithmetic on the search for the least number from one on. No condition beyond what each theorem says.
-/
import Derived.Test.YtahhenbphnejiaaDoorBitsMath
import Derived.Lib.TrailingZeros
namespace Go.Proofs.YtahhenbphnejiaaDoor
/-- What is less than n, in the word that n is in: the first round's mask; none later. -/
def belowN (n k : Nat) : Nat := if k = 0 then 2 ^ (n % 64) - 1 else 0
/-- What a round looks at. -/
def maskN (ws : List Nat) (n k x : Nat) : Nat := wd ws x &&& (18446744073709551615 - belowN n k)

theorem testBit_ones (r i : Nat) (hr : r < 64) : (18446744073709551615 - (2 ^ r - 1)).testBit i = (decide (i < 64) && decide (r ≤ i)) := by
  have hp : 0 < 2 ^ r := Nat.pow_pos (by decide)
  have hlt : 2 ^ r - 1 < 2 ^ 64 := by
    have : 2 ^ r < 2 ^ 64 := Nat.pow_lt_pow_right (by decide) hr
    omega
  have h := Nat.testBit_two_pow_sub_succ hlt i
  rw [show 2 ^ 64 - (2 ^ r - 1 + 1) = 18446744073709551615 - (2 ^ r - 1) by omega] at h
  rw [h, Nat.testBit_two_pow_sub_one]
  by_cases h2 : i < r
  · simp [h2]
  · simp [h2]; omega
theorem testBit_full (i : Nat) : (18446744073709551615 - 0).testBit i = decide (i < 64) := by
  have h := testBit_ones 0 i (by decide)
  simpa using h
theorem testBit_mask (ws : List Nat) (n k x i : Nat) (hi : i < 64) : (maskN ws n k x).testBit i = ((wd ws x).testBit i && (decide (k ≠ 0) || decide (n % 64 ≤ i))) := by
  unfold maskN belowN
  rw [Nat.testBit_and]
  by_cases h : k = 0
  · rw [if_pos h, testBit_ones _ _ (Nat.mod_lt _ (by decide))]
    simp [h, hi]
  · rw [if_neg h, testBit_full]
    simp [h, hi]
theorem maskN_le (ws : List Nat) (n k x : Nat) : maskN ws n k x ≤ wd ws x := Nat.and_le_left
theorem maskN_pos {ws : List Nat} {n k x : Nat} (h : maskN ws n k x ≠ 0) : x < ws.length := by
  rcases Nat.lt_or_ge x ws.length with h1 | h1
  · exact h1
  · have := maskN_le ws n k x
    rw [wd_over h1] at this
    omega
theorem belowN_lt (n k : Nat) : belowN n k < 18446744073709551616 := by
  unfold belowN
  have := pow_lt64 n
  split <;> omega

theorem ctz_spec (x : Nat) (h0 : x ≠ 0) (h : x < 18446744073709551616) : x.testBit (Go.Lib.ctz 64 x) = true ∧ (∀ i, i < Go.Lib.ctz 64 x → x.testBit i = false) ∧ Go.Lib.ctz 64 x < 64 := by
  obtain ⟨m, hm, hc⟩ := Go.Lib.ctzFrom_spec 64 x (Nat.pos_of_ne_zero h0) h
  have e : Go.Lib.ctz 64 x = Go.Lib.ctzFrom 64 x := by unfold Go.Lib.ctz; rw [if_neg h0]
  rw [e]
  generalize Go.Lib.ctzFrom 64 x = c at *
  subst hm
  refine ⟨?_, fun i hi => ?_, hc⟩
  · rw [Nat.testBit_two_pow_mul]
    simp
  · rw [Nat.testBit_two_pow_mul]
    simp; omega

/-- What a search tells: the least number from n on; or that there is none. -/
def NextIs (ws : List Nat) (n : Nat) (v : Int) (ok : Bool) : Prop :=
  (v = 0 ∧ ok = false ∧ ∀ m, n ≤ m → hasB ws m = false) ∨ ∃ m : Nat, v = (m : Int) ∧ ok = true ∧ n ≤ m ∧ hasB ws m = true ∧ ∀ j, n ≤ j → j < m → hasB ws j = false

/-- The rounds so far have found nothing. -/
def clearP (ws : List Nat) (n : Nat) (pre : List Nat) : Prop := ∀ i x, pre[i]? = some x → maskN ws n i x = 0

theorem clear_snoc {ws : List Nat} {n x : Nat} {pre : List Nat} (h : clearP ws n pre) (hx : maskN ws n pre.length x = 0) : clearP ws n (pre ++ [x]) := by
  intro i y hy
  rcases Nat.lt_trichotomy i pre.length with h1 | h1 | h1
  · rw [List.getElem?_append_left h1] at hy
    exact h i y hy
  · subst h1
    simp at hy
    subst hy
    exact hx
  · rw [List.getElem?_eq_none (by simp; omega)] at hy
    cases hy
theorem clear_has {ws : List Nat} {n k : Nat} (h : clearP ws n ((List.range k).map (n / 64 + ·))) {m : Nat} (hm : n ≤ m) (hk : m / 64 < n / 64 + k) : hasB ws m = false := by
  obtain ⟨i, hi⟩ : ∃ i, m / 64 = n / 64 + i := ⟨m / 64 - n / 64, by omega⟩
  have h1 := h i (n / 64 + i) (by rw [List.getElem?_map, List.getElem?_range (by omega)]; rfl)
  have h2 := testBit_mask ws n i (n / 64 + i) (m % 64) (Nat.mod_lt _ (by decide))
  rw [h1, Nat.zero_testBit] at h2
  unfold hasB
  rw [hi]
  have h3 : (decide (i ≠ 0) || decide (n % 64 ≤ m % 64)) = true := by
    by_cases e : i = 0
    · have : n % 64 ≤ m % 64 := by omega
      simp [this]
    · simp [e]
  rw [h3, Bool.and_true] at h2
  exact h2.symm
theorem next_none {size : Nat} {ws : List Nat} {n : Nat} (hs : SetW size ws) (h : clearP ws n ((List.range (ws.length - n / 64)).map (n / 64 + ·))) : NextIs ws n 0 false := by
  refine .inl ⟨rfl, rfl, fun m hm => ?_⟩
  by_cases hk : m / 64 < n / 64 + (ws.length - n / 64)
  · exact clear_has h hm hk
  · refine hs.top m ?_
    have := hs.len
    omega
theorem next_some {size : Nat} {ws : List Nat} {n k : Nat} (hs : SetW size ws) (h : clearP ws n ((List.range k).map (n / 64 + ·))) (hx : maskN ws n k (n / 64 + k) ≠ 0) :
    NextIs ws n (((n / 64 + k) * 64 + Go.Lib.ctz 64 (maskN ws n k (n / 64 + k)) : Nat) : Int) true := by
  have hlt : maskN ws n k (n / 64 + k) < 18446744073709551616 := Nat.lt_of_le_of_lt (maskN_le _ _ _ _) (hs.lt _)
  obtain ⟨h1, h2, h3⟩ := ctz_spec _ hx hlt
  generalize hc : Go.Lib.ctz 64 (maskN ws n k (n / 64 + k)) = c at *
  rw [testBit_mask ws n k _ c h3, Bool.and_eq_true] at h1
  have e1 : ((n / 64 + k) * 64 + c) / 64 = n / 64 + k := by omega
  have e2 : ((n / 64 + k) * 64 + c) % 64 = c := by omega
  refine .inr ⟨_, rfl, rfl, ?_, ?_, fun j hj hjm => ?_⟩
  · by_cases e : k = 0
    · have := h1.2
      simp [e] at this
      omega
    · omega
  · unfold hasB
    rw [e1, e2]
    exact h1.1
  · by_cases hk : j / 64 < n / 64 + k
    · exact clear_has h hj hk
    · have e3 : j / 64 = n / 64 + k := by omega
      have e4 : j % 64 < c := by omega
      have h4 := h2 _ e4
      rw [testBit_mask ws n k _ _ (by omega)] at h4
      unfold hasB
      rw [e3]
      have h5 : (decide (k ≠ 0) || decide (n % 64 ≤ j % 64)) = true := by
        by_cases e : k = 0
        · have : n % 64 ≤ j % 64 := by omega
          simp [this]
        · simp [e]
      rw [h5, Bool.and_true] at h4
      exact h4
end Go.Proofs.YtahhenbphnejiaaDoor
