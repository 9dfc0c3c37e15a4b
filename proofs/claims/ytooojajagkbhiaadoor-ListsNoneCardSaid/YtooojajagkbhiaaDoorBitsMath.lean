/-
  Plain arithmetic on rows of 64-bit words: which numbers they hold, and what turning one bit does. No condition beyond what each theorem says.
-/
namespace Go.Proofs.YtooojajagkbhiaaDoor
/-- A word of a row; 0 beyond its end. -/
def wd (ws : List Nat) (j : Nat) : Nat := ws.getD j 0
/-- Has a row a number? -/
def hasB (ws : List Nat) (n : Nat) : Bool := (wd ws (n / 64)).testBit (n % 64)
/-- A row with one number's bit turned. -/
def putW (ws : List Nat) (n : Nat) : List Nat := ws.set (n / 64) (wd ws (n / 64) ^^^ 2 ^ (n % 64))
/-- A row that stands for a set of numbers below a size. -/
structure SetW (size : Nat) (ws : List Nat) : Prop where
  len : ws.length = (size + 63) / 64
  lt : ∀ j, wd ws j < 18446744073709551616
  top : ∀ n, size ≤ n → hasB ws n = false

theorem wd_set (ws : List Nat) (i j x : Nat) : wd (ws.set i x) j = if i = j ∧ i < ws.length then x else wd ws j := by
  unfold wd
  simp only [List.getD_eq_getElem?_getD, List.getElem?_set]
  by_cases h : i = j
  · subst h
    by_cases h2 : i < ws.length
    · simp [h2]
    · simp [h2]
  · simp [h]
theorem wd_over {ws : List Nat} {j : Nat} (h : ws.length ≤ j) : wd ws j = 0 := by
  unfold wd
  simp [List.getD_eq_getElem?_getD, List.getElem?_eq_none h]
theorem pow_lt64 (n : Nat) : 2 ^ (n % 64) < 18446744073709551616 := by
  have h : n % 64 < 64 := Nat.mod_lt _ (by decide)
  exact Nat.pow_lt_pow_right (a := 2) (by decide) h
theorem xor_lt64 {a b : Nat} (ha : a < 18446744073709551616) (hb : b < 18446744073709551616) : a ^^^ b < 18446744073709551616 :=
  Nat.xor_lt_two_pow (n := 64) ha hb
theorem and_pow_ne (x n : Nat) : (x &&& 2 ^ n ≠ 0) ↔ x.testBit n = true := by
  constructor
  · intro h
    cases hb : x.testBit n with
    | true => rfl
    | false =>
      refine absurd (Nat.eq_of_testBit_eq fun i => ?_) h
      rw [Nat.testBit_and, Nat.testBit_two_pow, Nat.zero_testBit]
      by_cases e : n = i
      · subst e; simp [hb]
      · simp [e]
  · intro h e
    have : (x &&& 2 ^ n).testBit n = true := by rw [Nat.testBit_and, Nat.testBit_two_pow]; simp [h]
    rw [e, Nat.zero_testBit] at this
    exact Bool.noConfusion this
namespace SetW
variable {size : Nat} {ws : List Nat}
theorem place (h : SetW size ws) {n : Nat} (hn : n < size) : n / 64 < ws.length := by rw [h.len]; omega
theorem has_put (h : SetW size ws) {n : Nat} (hn : n < size) (m : Nat) : hasB (putW ws n) m = if m = n then !hasB ws n else hasB ws m := by
  have hp := h.place hn
  unfold hasB putW
  rw [wd_set]
  by_cases e : n / 64 = m / 64
  · rw [if_pos ⟨e, hp⟩, Nat.testBit_xor, Nat.testBit_two_pow, e]
    by_cases e2 : m = n
    · subst e2; simp
    · have : n % 64 ≠ m % 64 := by omega
      simp [this, e2]
  · rw [if_neg (fun x => e x.1)]
    have : m ≠ n := fun x => e (by rw [x])
    simp [this]
theorem put (h : SetW size ws) {n : Nat} (hn : n < size) : SetW size (putW ws n) := by
  refine ⟨by simp [putW, h.len], fun j => ?_, fun m hm => ?_⟩
  · unfold putW
    rw [wd_set]
    split
    · exact xor_lt64 (h.lt _) (pow_lt64 n)
    · exact h.lt j
  · rw [h.has_put hn, if_neg (by omega)]
    exact h.top m hm
end SetW
theorem setW_zero (size : Nat) : SetW size (List.replicate ((size + 63) / 64) 0) := by
  have hw : ∀ j, wd (List.replicate ((size + 63) / 64) 0) j = 0 := fun j => by
    unfold wd
    simp only [List.getD_eq_getElem?_getD, List.getElem?_replicate]
    split <;> rfl
  exact ⟨by simp, fun j => by rw [hw]; decide, fun n _ => by unfold hasB; rw [hw]; simp⟩
theorem hasB_zero (size n : Nat) : hasB (List.replicate ((size + 63) / 64) 0) n = false := by
  have hw : ∀ j, wd (List.replicate ((size + 63) / 64) 0) j = 0 := fun j => by
    unfold wd
    simp only [List.getD_eq_getElem?_getD, List.getElem?_replicate]
    split <;> rfl
  unfold hasB; rw [hw]; simp
theorem wd_bit {ws : List Nat} {j i : Nat} (hi : i < 64) : (wd ws j).testBit i = hasB ws (64 * j + i) := by
  unfold hasB
  rw [show (64 * j + i) / 64 = j by omega, show (64 * j + i) % 64 = i by omega]
/-- Two rows of one size are the same just if they have the same numbers. -/
theorem ext_has {size : Nat} {ws vs : List Nat} (h : SetW size ws) (h' : SetW size vs) (he : ∀ n, n < size → hasB ws n = hasB vs n) : ws = vs := by
  have hl : ws.length = vs.length := by rw [h.len, h'.len]
  have hw : ∀ j, wd ws j = wd vs j := fun j => by
    apply Nat.eq_of_testBit_eq
    intro i
    by_cases hi : i < 64
    · rw [wd_bit hi, wd_bit hi]
      by_cases hn : 64 * j + i < size
      · exact he _ hn
      · rw [h.top _ (by omega), h'.top _ (by omega)]
    · have hp : (18446744073709551616 : Nat) ≤ 2 ^ i := by
        have := Nat.pow_le_pow_right (n := 2) (by decide) (show 64 ≤ i by omega)
        simpa using this
      rw [Nat.testBit_lt_two_pow (Nat.lt_of_lt_of_le (h.lt j) hp), Nat.testBit_lt_two_pow (Nat.lt_of_lt_of_le (h'.lt j) hp)]
  apply List.ext_getElem hl
  intro i h1 h2
  have := hw i
  unfold wd at this
  simpa [List.getD_eq_getElem?_getD, h1, h2] using this
end Go.Proofs.YtooojajagkbhiaaDoor
