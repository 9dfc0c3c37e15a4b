/-
  Plain: bytes, and numerals in tens.
-/
import Derived.Test.YtodfkklkgcoddaaDoorSsA
import Derived.Lib.ItoaNum
namespace Go.Proofs.YtodfkklkgcoddaaDoor.Ss
open Go.Lib

def bs (l : List UInt8) : ByteArray := ⟨l.toArray⟩
theorem bs_append (l m : List UInt8) : bs l ++ bs m = bs (l ++ m) := by
  apply ByteArray.ext
  apply Array.ext'
  simp [bs, ByteArray.data_append]
theorem bs_size (l : List UInt8) : (bs l).size = l.length := by simp [bs, ByteArray.size]
theorem bs_empty (l : List UInt8) : (bs l).toList.isEmpty = l.isEmpty := by rw [ByteArray.toList_eq]; rfl
def digB (c : UInt8) : Prop := 48 ≤ c.toNat ∧ c.toNat ≤ 57
def inI (n : Int) : Prop := -9223372036854775808 ≤ n ∧ n ≤ 9223372036854775807
/-- What digits spell, behind what was spelt. -/
def valD (acc : Nat) : List UInt8 → Nat
  | [] => acc
  | c :: r => valD (acc * 10 + (c.toNat - 48)) r
theorem valD_append : ∀ (a b : List UInt8) (acc : Nat), valD acc (a ++ b) = valD (valD acc a) b
  | [], _, _ => rfl
  | c :: a, b, acc => by rw [List.cons_append]; exact valD_append a b _
theorem valD_ge : ∀ (l : List UInt8) (acc : Nat), acc ≤ valD acc l
  | [], _ => Nat.le_refl _
  | c :: r, acc => Nat.le_trans (by omega) (valD_ge r (acc * 10 + (c.toNat - 48)))
theorem dgt {d : Nat} (h : d < 10) : (UInt8.ofNat (48 + d)).toNat = 48 + d := by
  rw [UInt8.toNat_ofNat']; omega
theorem dec_digs (u : Nat) : ∀ c ∈ decDigits u, digB c := by
  induction u using Nat.strongRecOn with
  | _ u ih =>
    intro c hc
    by_cases h : u < 10
    · rw [decDigits, dif_pos h] at hc
      obtain rfl := List.mem_singleton.1 hc
      unfold digB; rw [dgt h]; omega
    · rw [decDigits, dif_neg h, List.mem_append] at hc
      rcases hc with hc | hc
      · exact ih (u / 10) (by omega) c hc
      · obtain rfl := List.mem_singleton.1 hc
        unfold digB; rw [dgt (by omega)]; omega
theorem val_dec (u : Nat) : valD 0 (decDigits u) = u := by
  induction u using Nat.strongRecOn with
  | _ u ih =>
    by_cases h : u < 10
    · rw [decDigits, dif_pos h]
      have e := dgt h
      have e2 : valD 0 [UInt8.ofNat (48 + u)] = 0 * 10 + ((UInt8.ofNat (48 + u)).toNat - 48) := rfl
      rw [e2]
      generalize (UInt8.ofNat (48 + u)).toNat = q at e ⊢
      omega
    · rw [decDigits, dif_neg h, valD_append, ih (u / 10) (by omega)]
      have e := dgt (show u % 10 < 10 by omega)
      have e2 : valD (u / 10) [UInt8.ofNat (48 + u % 10)] = (u / 10) * 10 + ((UInt8.ofNat (48 + u % 10)).toNat - 48) := rfl
      rw [e2]
      generalize (UInt8.ofNat (48 + u % 10)).toNat = q at e ⊢
      omega
theorem dec_ne (u : Nat) : decDigits u ≠ [] := by
  intro h
  have h1 := decDigits_length u
  rw [h] at h1
  have := nDigits_pos u
  simp at h1; omega
theorem dec_head (u : Nat) (hu : u ≠ 0) : (decDigits u).head? ≠ some 48 := by
  induction u using Nat.strongRecOn with
  | _ u ih =>
    by_cases h : u < 10
    · rw [decDigits, dif_pos h, List.head?_cons]
      intro e
      injection e with e
      have := congrArg UInt8.toNat e
      rw [dgt h] at this
      simp at this; omega
    · rw [decDigits, dif_neg h, List.head?_append]
      have h1 := ih (u / 10) (by omega) (by omega)
      cases hd : (decDigits (u / 10)).head? with
      | none => exact absurd (List.head?_eq_none_iff.1 hd) (dec_ne _)
      | some x => rw [hd] at h1; simpa using h1
theorem dec_zero : decDigits 0 = [48] := by rw [decDigits, dif_pos (by omega)]; rfl
/-- Digits without a needless 0 are the numeral of what they spell. -/
theorem dec_val : ∀ (n : Nat) (l : List UInt8), l.length = n + 1 → (∀ c ∈ l, digB c) → (l.head? ≠ some 48 ∨ l = [48]) → decDigits (valD 0 l) = l := by
  intro n
  induction n with
  | zero =>
    intro l hn hd _
    obtain ⟨c, rfl⟩ := List.length_eq_one_iff.1 (by omega : l.length = 1)
    have hc : digB c := hd c (by simp)
    unfold digB at hc
    have hcc : UInt8.ofNat (48 + (c.toNat - 48)) = c := by
      rw [show 48 + (c.toNat - 48) = c.toNat by omega]; simp
    have e2 : valD 0 [c] = c.toNat - 48 := by
      show 0 * 10 + (c.toNat - 48) = c.toNat - 48
      generalize c.toNat - 48 = q
      omega
    rw [e2, decDigits, dif_pos (show c.toNat - 48 < 10 by omega), hcc]
  | succ n ih0 =>
    intro l hn hd hz
    have hne : l ≠ [] := by intro e; rw [e] at hn; simp at hn
    obtain ⟨a, c, hl⟩ : ∃ a c, l = a ++ [c] := ⟨l.dropLast, l.getLast hne, (List.dropLast_concat_getLast hne).symm⟩
    rw [hl] at hn hd hz
    rw [hl]
    clear hl hne
    have hal : a.length = n + 1 := by simp at hn; omega
    have hc : digB c := hd c (by simp)
    unfold digB at hc
    have hcc : UInt8.ofNat (48 + (c.toNat - 48)) = c := by
      rw [show 48 + (c.toNat - 48) = c.toNat by omega]; simp
    have hh : a.head? ≠ some 48 := by
      rcases hz with hz | hz
      · intro e
        apply hz
        rw [List.head?_append, e]; rfl
      · exfalso
        have h9 := congrArg List.length hz
        rw [List.length_append] at h9
        have e1 : ([c] : List UInt8).length = 1 := rfl
        have e2 : ([48] : List UInt8).length = 1 := rfl
        rw [e1, e2] at h9
        omega
    have ih := ih0 a hal (fun x hx => hd x (by simp [hx])) (.inl hh)
    have hpos : valD 0 a ≠ 0 := by
      intro e
      rw [e, dec_zero] at ih
      rw [← ih] at hh
      exact hh rfl
    have e2 : valD 0 (a ++ [c]) = valD 0 a * 10 + (c.toNat - 48) := by rw [valD_append]; rfl
    rw [e2]
    have hq : c.toNat - 48 < 10 := by omega
    revert hcc hq ih hpos
    generalize valD 0 a = v
    generalize c.toNat - 48 = q
    intro hcc ih hpos hq
    have h10 : ¬ v * 10 + q < 10 := by omega
    rw [decDigits, dif_neg h10, show (v * 10 + q) / 10 = v by omega, ih, show (v * 10 + q) % 10 = q by omega, hcc]
theorem valD_lt : ∀ (l : List UInt8) (acc : Nat), (∀ c ∈ l, digB c) → valD acc l < (acc + 1) * 10 ^ l.length
  | [], acc, _ => by
    have e1 : valD acc [] = acc := rfl
    have e2 : ([] : List UInt8).length = 0 := rfl
    rw [e1, e2, Nat.pow_zero]; omega
  | c :: r, acc, h => by
    have hc := h c (by simp)
    unfold digB at hc
    have ih := valD_lt r (acc * 10 + (c.toNat - 48)) (fun x hx => h x (by simp [hx]))
    rw [List.length_cons, Nat.pow_succ]
    refine Nat.lt_of_lt_of_le ih ?_
    rw [show (acc + 1) * (10 ^ r.length * 10) = (acc * 10 + 10) * 10 ^ r.length by rw [Nat.mul_comm (10 ^ r.length) 10, ← Nat.mul_assoc]; congr 1; omega]
    exact Nat.mul_le_mul_right _ (by omega)
theorem dec_len {u : Nat} (h : u < 10000000000000000000) : (decDigits u).length ≤ 19 := by
  rw [decDigits_length]
  rcases Nat.lt_or_ge 19 (nDigits u) with h1 | h1
  · exfalso
    have h2 : ∀ k u, nDigits u = k + 1 → 10 ^ k ≤ u ∨ k = 0 := by
      intro k
      induction k with
      | zero => exact fun _ _ => .inr rfl
      | succ k ih =>
        intro u hu
        left
        by_cases hs : u < 10
        · rw [nDigits_small hs] at hu; omega
        · rw [nDigits_big hs] at hu
          rcases ih (u / 10) (by omega) with h3 | h3
          · rw [Nat.pow_succ]; omega
          · subst h3; omega
    obtain ⟨k, hk⟩ : ∃ k, nDigits u = k + 1 := ⟨nDigits u - 1, by have := nDigits_pos u; omega⟩
    rcases h2 k u hk with h3 | h3
    · have h4 : 10 ^ 19 ≤ 10 ^ k := Nat.pow_le_pow_right (by omega) (by omega)
      have : (10 : Nat) ^ 19 = 10000000000000000000 := by decide
      omega
    · omega
  · exact h1

theorem itoa_len {n : Int} (h : inI n) : (Lib.itoa n).length ≤ 20 := by
  unfold inI at h
  unfold Lib.itoa
  split
  · have := dec_len (u := n.natAbs) (by omega)
    rw [List.length_cons]; omega
  · have := dec_len (u := n.toNat) (by omega)
    omega
end Go.Proofs.YtodfkklkgcoddaaDoor.Ss
