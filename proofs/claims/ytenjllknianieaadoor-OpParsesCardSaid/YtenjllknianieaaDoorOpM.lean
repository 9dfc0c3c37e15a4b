/-
  Plain: numerals in tens, there and back; words at blanks, joined and split; an operation's line, and that it has just one operation.
-/
import Derived.Test.YtenjllknianieaaDoorOpA
import Derived.Lib.ItoaNum
import Derived.Lib.AtoiAll
import Derived.Lib.Split
namespace Go.Proofs.YtenjllknianieaaDoor.Opr
open Go.Lib

def digB (c : UInt8) : Prop := 48 ≤ c.toNat ∧ c.toNat ≤ 57
def inI (n : Int) : Prop := -9223372036854775808 ≤ n ∧ n ≤ 9223372036854775807
/-- What digits spell, behind what was spelt. -/
def valD (acc : Nat) : List UInt8 → Nat
  | [] => acc
  | c :: r => valD (acc * 10 + (c.toNat - 48)) r
theorem valD_append : ∀ (a b : List UInt8) (acc : Nat), valD acc (a ++ b) = valD (valD acc a) b
  | [], _, _ => rfl
  | c :: a, b, acc => by rw [List.cons_append]; exact valD_append a b _
theorem valD_ge : ∀ (l : List UInt8) (acc : Nat), acc ≤ valD acc l
  | [], _ => Nat.le_refl _
  | c :: r, acc => Nat.le_trans (by omega) (valD_ge r (acc * 10 + (c.toNat - 48)))
theorem dgt {d : Nat} (h : d < 10) : (UInt8.ofNat (48 + d)).toNat = 48 + d := by
  rw [UInt8.toNat_ofNat']; omega
theorem dec_digs (u : Nat) : ∀ c ∈ decDigits u, digB c := by
  induction u using Nat.strongRecOn with
  | _ u ih =>
    intro c hc
    by_cases h : u < 10
    · rw [decDigits, dif_pos h] at hc
      obtain rfl := List.mem_singleton.1 hc
      unfold digB; rw [dgt h]; omega
    · rw [decDigits, dif_neg h, List.mem_append] at hc
      rcases hc with hc | hc
      · exact ih (u / 10) (by omega) c hc
      · obtain rfl := List.mem_singleton.1 hc
        unfold digB; rw [dgt (by omega)]; omega
theorem val_dec (u : Nat) : valD 0 (decDigits u) = u := by
  induction u using Nat.strongRecOn with
  | _ u ih =>
    by_cases h : u < 10
    · rw [decDigits, dif_pos h]
      have e := dgt h
      have e2 : valD 0 [UInt8.ofNat (48 + u)] = 0 * 10 + ((UInt8.ofNat (48 + u)).toNat - 48) := rfl
      rw [e2]
      generalize (UInt8.ofNat (48 + u)).toNat = q at e ⊢
      omega
    · rw [decDigits, dif_neg h, valD_append, ih (u / 10) (by omega)]
      have e := dgt (show u % 10 < 10 by omega)
      have e2 : valD (u / 10) [UInt8.ofNat (48 + u % 10)] = (u / 10) * 10 + ((UInt8.ofNat (48 + u % 10)).toNat - 48) := rfl
      rw [e2]
      generalize (UInt8.ofNat (48 + u % 10)).toNat = q at e ⊢
      omega
theorem dec_ne (u : Nat) : decDigits u ≠ [] := by
  intro h
  have h1 := decDigits_length u
  rw [h] at h1
  have := nDigits_pos u
  simp at h1; omega
theorem dec_head (u : Nat) (hu : u ≠ 0) : (decDigits u).head? ≠ some 48 := by
  induction u using Nat.strongRecOn with
  | _ u ih =>
    by_cases h : u < 10
    · rw [decDigits, dif_pos h, List.head?_cons]
      intro e
      injection e with e
      have := congrArg UInt8.toNat e
      rw [dgt h] at this
      simp at this; omega
    · rw [decDigits, dif_neg h, List.head?_append]
      have h1 := ih (u / 10) (by omega) (by omega)
      cases hd : (decDigits (u / 10)).head? with
      | none => exact absurd (List.head?_eq_none_iff.1 hd) (dec_ne _)
      | some x => rw [hd] at h1; simpa using h1
theorem dec_zero : decDigits 0 = [48] := by rw [decDigits, dif_pos (by omega)]; rfl
/-- Digits without a needless 0 are the numeral of what they spell. -/
theorem dec_val : ∀ (n : Nat) (l : List UInt8), l.length = n + 1 → (∀ c ∈ l, digB c) → (l.head? ≠ some 48 ∨ l = [48]) → decDigits (valD 0 l) = l := by
  intro n
  induction n with
  | zero =>
    intro l hn hd _
    obtain ⟨c, rfl⟩ := List.length_eq_one_iff.1 (by omega : l.length = 1)
    have hc : digB c := hd c (by simp)
    unfold digB at hc
    have hcc : UInt8.ofNat (48 + (c.toNat - 48)) = c := by
      rw [show 48 + (c.toNat - 48) = c.toNat by omega]; simp
    have e2 : valD 0 [c] = c.toNat - 48 := by
      show 0 * 10 + (c.toNat - 48) = c.toNat - 48
      generalize c.toNat - 48 = q
      omega
    rw [e2, decDigits, dif_pos (show c.toNat - 48 < 10 by omega), hcc]
  | succ n ih0 =>
    intro l hn hd hz
    have hne : l ≠ [] := by intro e; rw [e] at hn; simp at hn
    obtain ⟨a, c, hl⟩ : ∃ a c, l = a ++ [c] := ⟨l.dropLast, l.getLast hne, (List.dropLast_concat_getLast hne).symm⟩
    rw [hl] at hn hd hz
    rw [hl]
    clear hl hne
    have hal : a.length = n + 1 := by simp at hn; omega
    have hc : digB c := hd c (by simp)
    unfold digB at hc
    have hcc : UInt8.ofNat (48 + (c.toNat - 48)) = c := by
      rw [show 48 + (c.toNat - 48) = c.toNat by omega]; simp
    have hh : a.head? ≠ some 48 := by
      rcases hz with hz | hz
      · intro e
        apply hz
        rw [List.head?_append, e]; rfl
      · exfalso
        have h9 := congrArg List.length hz
        rw [List.length_append] at h9
        have e1 : ([c] : List UInt8).length = 1 := rfl
        have e2 : ([48] : List UInt8).length = 1 := rfl
        rw [e1, e2] at h9
        omega
    have ih := ih0 a hal (fun x hx => hd x (by simp [hx])) (.inl hh)
    have hpos : valD 0 a ≠ 0 := by
      intro e
      rw [e, dec_zero] at ih
      rw [← ih] at hh
      exact hh rfl
    have e2 : valD 0 (a ++ [c]) = valD 0 a * 10 + (c.toNat - 48) := by rw [valD_append]; rfl
    rw [e2]
    have hq : c.toNat - 48 < 10 := by omega
    revert hcc hq ih hpos
    generalize valD 0 a = v
    generalize c.toNat - 48 = q
    intro hcc ih hpos hq
    have h10 : ¬ v * 10 + q < 10 := by omega
    rw [decDigits, dif_neg h10, show (v * 10 + q) / 10 = v by omega, ih, show (v * 10 + q) % 10 = q by omega, hcc]
theorem valD_lt : ∀ (l : List UInt8) (acc : Nat), (∀ c ∈ l, digB c) → valD acc l < (acc + 1) * 10 ^ l.length
  | [], acc, _ => by
    have e1 : valD acc [] = acc := rfl
    have e2 : ([] : List UInt8).length = 0 := rfl
    rw [e1, e2, Nat.pow_zero]; omega
  | c :: r, acc, h => by
    have hc := h c (by simp)
    unfold digB at hc
    have ih := valD_lt r (acc * 10 + (c.toNat - 48)) (fun x hx => h x (by simp [hx]))
    rw [List.length_cons, Nat.pow_succ]
    refine Nat.lt_of_lt_of_le ih ?_
    rw [show (acc + 1) * (10 ^ r.length * 10) = (acc * 10 + 10) * 10 ^ r.length by rw [Nat.mul_comm (10 ^ r.length) 10, ← Nat.mul_assoc]; congr 1; omega]
    exact Nat.mul_le_mul_right _ (by omega)
theorem dec_len {u : Nat} (h : u < 10000000000000000000) : (decDigits u).length ≤ 19 := by
  rw [decDigits_length]
  rcases Nat.lt_or_ge 19 (nDigits u) with h1 | h1
  · exfalso
    have h2 : ∀ k u, nDigits u = k + 1 → 10 ^ k ≤ u ∨ k = 0 := by
      intro k
      induction k with
      | zero => exact fun _ _ => .inr rfl
      | succ k ih =>
        intro u hu
        left
        by_cases hs : u < 10
        · rw [nDigits_small hs] at hu; omega
        · rw [nDigits_big hs] at hu
          rcases ih (u / 10) (by omega) with h3 | h3
          · rw [Nat.pow_succ]; omega
          · subst h3; omega
    obtain ⟨k, hk⟩ : ∃ k, nDigits u = k + 1 := ⟨nDigits u - 1, by have := nDigits_pos u; omega⟩
    rcases h2 k u hk with h3 | h3
    · have h4 : 10 ^ 19 ≤ 10 ^ k := Nat.pow_le_pow_right (by omega) (by omega)
      have : (10 : Nat) ^ 19 = 10000000000000000000 := by decide
      omega
    · omega
  · exact h1

/-- What is told is read. -/
theorem parse10 : ∀ (l : List UInt8) (acc : Nat), (∀ c ∈ l, digB c) → valD acc l ≤ 9223372036854775808 → parseUint10 acc l = .ok (valD acc l)
  | [], _, _, _ => rfl
  | c :: r, acc, h, hv => by
    have hc := h c (by simp)
    unfold digB at hc
    have h1 : acc * 10 + (c.toNat - 48) ≤ 9223372036854775808 := Nat.le_trans (valD_ge r _) hv
    unfold parseUint10
    rw [if_pos hc, if_neg (by omega), if_neg (by omega)]
    exact parse10 r _ (fun x hx => h x (by simp [hx])) hv
theorem atoi_itoa {n : Int} (h : inI n) : atoiAll (itoa n) = .ok n := by
  unfold inI at h
  unfold itoa
  by_cases hn : n < 0
  · rw [if_pos hn]
    have h1 : parseMag (decDigits n.natAbs) = .ok n.natAbs := by
      unfold parseMag
      rw [if_neg (dec_ne _), parse10 _ 0 (dec_digs _) (by rw [val_dec]; omega), val_dec]
    unfold atoiAll
    have e : (45 : UInt8).toNat = 45 := rfl
    simp only [e, or_true, if_true, h1, not_true, false_and, if_false, true_and]
    rw [if_neg (by omega)]
    congr 1
    omega
  · rw [if_neg hn]
    have h1 : parseMag (decDigits n.toNat) = .ok n.toNat := by
      unfold parseMag
      rw [if_neg (dec_ne _), parse10 _ 0 (dec_digs _) (by rw [val_dec]; omega), val_dec]
    cases hd : decDigits n.toNat with
    | nil => exact absurd hd (dec_ne _)
    | cons c r =>
      have hc := dec_digs n.toNat c (by rw [hd]; simp)
      unfold digB at hc
      unfold atoiAll
      have e1 : ¬ c.toNat = 43 := by omega
      have e2 : ¬ c.toNat = 45 := by omega
      simp only [e1, e2, or_false, if_false, ← hd, h1, not_false_iff, true_and, false_and]
      rw [if_neg (by omega)]
      congr 1
      omega
theorem itoa_inj {a b : Int} (ha : inI a) (hb : inI b) (h : itoa a = itoa b) : a = b := by
  have h1 := atoi_itoa ha
  rw [h, atoi_itoa hb] at h1
  injection h1 with h1
  exact h1.symm

/-! Words at blanks. -/
def NoB (l : List UInt8) : Prop := ∀ c ∈ l, c ≠ 32
theorem noB_itoa (n : Int) : NoB (itoa n) := by
  intro c hc e
  subst e
  unfold itoa at hc
  split at hc
  · rcases List.mem_cons.1 hc with h | h
    · cases h
    · have := dec_digs _ _ h
      unfold digB at this
      simp at this
  · have := dec_digs _ _ hc
    unfold digB at this
    simp at this
theorem noB_word (k : Nat) : NoB (wordK k) := by
  intro c hc e
  subst e
  unfold wordK at hc
  split at hc <;> simp at hc
def joinT : List (List UInt8) → List UInt8
  | [] => []
  | w :: r => 32 :: (w ++ joinT r)
def joinW (w : List UInt8) (r : List (List UInt8)) : List UInt8 := w ++ joinT r
theorem occ_no {w : List UInt8} (h : NoB w) (r : List UInt8) {j : Nat} (hj : j < w.length) : occAt (w ++ r) [32] j = false := by
  unfold occAt
  rw [List.drop_append_of_le_length (by omega)]
  cases hd : w.drop j with
  | nil => rw [List.drop_eq_nil_iff] at hd; omega
  | cons c t =>
    have : c ∈ w := List.mem_of_mem_drop (i := j) (by rw [hd]; simp)
    simp only [List.cons_append, List.isPrefixOf, Bool.and_true]
    rw [beq_eq_false_iff_ne]
    exact fun e => h c this e.symm
theorem index_join {w : List UInt8} (h : NoB w) (r : List UInt8) : index (w ++ 32 :: r) [32] = w.length := by
  refine index_first (by simp) ?_ (fun j hj => occ_no h _ hj)
  unfold occAt
  rw [List.drop_append_of_le_length (by omega), List.drop_length]
  simp [List.isPrefixOf]
theorem index_word {w : List UInt8} (h : NoB w) : index w [32] = -1 := by
  refine index_none (fun j hj => ?_)
  rcases Nat.lt_or_ge j w.length with h1 | h1
  · have := occ_no h [] h1
    rwa [List.append_nil] at this
  · unfold occAt
    rw [List.drop_eq_nil_of_le h1]
    rfl
theorem split_join : ∀ (r : List (List UInt8)) (w : List UInt8) (k : Nat), NoB w → (∀ x ∈ r, NoB x) → r.length ≤ k → splitK [32] 0 k (joinW w r) = w :: r
  | [], w, k, hw, _, _ => by
    unfold joinW joinT
    rw [List.append_nil]
    cases k with
    | zero => rfl
    | succ k => unfold splitK; rw [index_word hw]; rfl
  | x :: r, w, k, hw, hr, hk => by
    obtain ⟨k, rfl⟩ : ∃ j, k = j + 1 := ⟨k - 1, by rw [List.length_cons] at hk; omega⟩
    unfold joinW joinT
    unfold splitK
    rw [index_join hw]
    have e : ((w.length : Int) == -1) = false := by rw [beq_eq_false_iff_ne]; omega
    rw [e]
    simp only [Bool.false_eq_true, if_false, Int.toNat_natCast, Nat.add_zero, List.length_singleton]
    rw [List.take_left', show (w ++ 32 :: (x ++ joinT r)).drop (w.length + 1) = x ++ joinT r by rw [List.drop_append, List.drop_of_length_le (by omega)]; simp]
    · exact congrArg _ (split_join r x k (hr x (by simp)) (fun y hy => hr y (by simp [hy])) (by rw [List.length_cons] at hk; omega))
    · rfl
theorem join_inj {w v : List UInt8} {r q : List (List UInt8)} (hw : NoB w) (hr : ∀ x ∈ r, NoB x) (hv : NoB v) (hq : ∀ x ∈ q, NoB x) (h : joinW w r = joinW v q) : w = v ∧ r = q := by
  have h1 := split_join r w (max r.length q.length) hw hr (by omega)
  rw [h, split_join q v _ hv hq (by omega)] at h1
  injection h1 with a b
  exact ⟨a.symm, b.symm⟩
theorem joinT_len : ∀ r : List (List UInt8), r.length ≤ (joinT r).length
  | [] => by simp
  | w :: r => by
    have := joinT_len r
    unfold joinT
    simp only [List.length_cons, List.length_append]; omega

/-! An operation's line. -/
/-- What it uses. -/
def numsK (k : Nat) (a b c : Int) : List Int := [a, b, c].take (usesK k)
def lineK (k : Nat) (a b c : Int) : List UInt8 := joinW (wordK k) ((numsK k a b c).map itoa)
/-- Bare. -/
def BareK (k : Nat) (a b c : Int) : Prop := 1 ≤ k ∧ k ≤ 8 ∧ inI a ∧ inI b ∧ inI c ∧ (usesK k < 3 → c = 0) ∧ (usesK k < 2 → b = 0) ∧ (usesK k < 1 → a = 0)
theorem word_inj {k j : Nat} (k1 : 1 ≤ k) (k8 : k ≤ 8) (j1 : 1 ≤ j) (j8 : j ≤ 8) (h : wordK k = wordK j) : k = j := by
  have hk : k = 1 ∨ k = 2 ∨ k = 3 ∨ k = 4 ∨ k = 5 ∨ k = 6 ∨ k = 7 ∨ k = 8 := by omega
  have hj : j = 1 ∨ j = 2 ∨ j = 3 ∨ j = 4 ∨ j = 5 ∨ j = 6 ∨ j = 7 ∨ j = 8 := by omega
  rcases hk with rfl | rfl | rfl | rfl | rfl | rfl | rfl | rfl <;> rcases hj with rfl | rfl | rfl | rfl | rfl | rfl | rfl | rfl <;> first | rfl | (exfalso; revert h; decide)
theorem noB_nums {l : List Int} : ∀ x ∈ l.map itoa, NoB x := by
  intro x hx
  obtain ⟨n, _, rfl⟩ := List.mem_map.1 hx
  exact noB_itoa n
theorem nums_inj {l m : List Int} (hl : ∀ x ∈ l, inI x) (hm : ∀ x ∈ m, inI x) (h : l.map itoa = m.map itoa) : l = m := by
  induction l generalizing m with
  | nil => cases m with
    | nil => rfl
    | cons _ _ => simp at h
  | cons a l ih => cases m with
    | nil => simp at h
    | cons b m =>
      simp only [List.map_cons, List.cons.injEq] at h
      rw [itoa_inj (hl a (by simp)) (hm b (by simp)) h.1, ih (fun x hx => hl x (by simp [hx])) (fun x hx => hm x (by simp [hx])) h.2]
theorem nums_in {k : Nat} {a b c : Int} (ha : inI a) (hb : inI b) (hc : inI c) : ∀ x ∈ numsK k a b c, inI x := by
  intro x hx
  have := List.mem_of_mem_take hx
  simp only [List.mem_cons, List.not_mem_nil, or_false] at this
  rcases this with rfl | rfl | rfl <;> assumption
theorem uses_cases (k : Nat) : usesK k = 0 ∨ usesK k = 1 ∨ usesK k = 2 ∨ usesK k = 3 := by unfold usesK; split <;> omega
theorem line_inj {k j : Nat} {a b c x y z : Int} (h1 : BareK k a b c) (h2 : BareK j x y z) (h : lineK k a b c = lineK j x y z) : k = j ∧ a = x ∧ b = y ∧ c = z := by
  obtain ⟨k1, k8, ha, hb, hc, u3, u2, u1⟩ := h1
  obtain ⟨j1, j8, hx, hy, hz, v3, v2, v1⟩ := h2
  obtain ⟨e1, e2⟩ := join_inj (noB_word _) noB_nums (noB_word _) noB_nums h
  obtain rfl := word_inj k1 k8 j1 j8 e1
  have e3 := nums_inj (nums_in ha hb hc) (nums_in hx hy hz) e2
  refine ⟨rfl, ?_⟩
  unfold numsK at e3
  rcases uses_cases k with hu | hu | hu | hu <;> rw [hu] at u1 u2 u3 v1 v2 v3 e3
  · rw [u1 (by omega), u2 (by omega), u3 (by omega), v1 (by omega), v2 (by omega), v3 (by omega)]; exact ⟨rfl, rfl, rfl⟩
  · simp at e3
    rw [u2 (by omega), u3 (by omega), v2 (by omega), v3 (by omega)]; exact ⟨e3, rfl, rfl⟩
  · simp at e3
    rw [u3 (by omega), v3 (by omega)]; exact ⟨e3.1, e3.2, rfl⟩
  · simp at e3
    exact e3
end Go.Proofs.YtenjllknianieaaDoor.Opr
