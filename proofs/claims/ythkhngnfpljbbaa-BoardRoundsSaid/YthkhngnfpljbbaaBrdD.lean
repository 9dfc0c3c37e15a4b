/-
  How many haven't answered; the law BoardRounds answers true.
-/
import Derived.Test.YthkhngnfpljbbaaBrdC
namespace Go.Proofs.Ythkhngnfpljbbaa.Brd
open Go.RowKit
open Go.Proofs.Ythkhngnfpljbbaa.Row

/-- How many of the first n haven't answered. -/
def cnt : Nat → (Nat → Bool) → Nat
  | 0, _ => 0
  | n + 1, ow => cnt n ow + if ow n then 1 else 0
theorem cnt_le (n : Nat) (ow : Nat → Bool) : cnt n ow ≤ n := by
  induction n with
  | zero => exact Nat.le_refl _
  | succ n ih => unfold cnt; split <;> omega
theorem cnt_zero {n : Nat} {ow : Nat → Bool} : cnt n ow = 0 ↔ ∀ m, m < n → ow m = false := by
  induction n with
  | zero => simp [cnt]
  | succ n ih =>
    unfold cnt
    constructor
    · intro h m hm
      have h1 : ow n = false := by
        cases e : ow n with
        | false => rfl
        | true => rw [e] at h; simp at h
      have h2 : cnt n ow = 0 := by omega
      by_cases e : m = n
      · rw [e]; exact h1
      · exact ih.1 h2 m (by omega)
    · intro h
      rw [ih.2 (fun m hm => h m (by omega)), h n (by omega)]
      simp
theorem cnt_full {n : Nat} {ow : Nat → Bool} (h : ∀ m, m < n → ow m = true) : cnt n ow = n := by
  induction n with
  | zero => rfl
  | succ n ih => unfold cnt; rw [ih (fun m hm => h m (by omega)), h n (by omega)]; simp
theorem cnt_out {n m : Nat} {ow : Nat → Bool} (b : Bool) (hm : n ≤ m) : cnt n (upd ow m b) = cnt n ow := by
  induction n with
  | zero => rfl
  | succ n ih =>
    unfold cnt
    rw [ih (by omega)]
    have : upd ow m b n = ow n := by unfold upd; rw [if_neg (by omega)]
    rw [this]
theorem cnt_upd {n m : Nat} {ow : Nat → Bool} (hm : m < n) (ho : ow m = true) : cnt n (upd ow m false) + 1 = cnt n ow := by
  induction n with
  | zero => omega
  | succ n ih =>
    unfold cnt
    by_cases e : m = n
    · subst e
      rw [cnt_out _ (Nat.le_refl _), ho]
      have : upd ow m false m = false := by unfold upd; rw [if_pos rfl]
      rw [this]
      simp
    · have h1 : upd ow m false n = ow n := by unfold upd; rw [if_neg (by omega)]
      have h2 := ih (by omega)
      rw [h1]
      omega
theorem allB_cnt (n : Nat) (ow : Nat → Bool) : allB n ow = decide (cnt n ow = 0) := by
  unfold allB
  simp only [decide_eq_decide]
  exact cnt_zero.symm
theorem upd_false {ow : Nat → Bool} {m k : Nat} (h : ow k = false) : upd ow m false k = false := by
  unfold upd
  split
  · rfl
  · exact h

/-- The bytes of a row that came in, below S. -/
def BytesP (S : Nat) (W : World) (p : Option Addr) (zs : List Nat) : Prop := ∀ j, j < zs.length → ∃ b off, p = some ⟨b, off, none⟩ ∧ b < S ∧ zs.getD j 0 < 256 ∧ W.cell? ⟨b, off + j, none⟩ = some (.int .u8 ((zs.getD j 0 : Nat) : Int))
theorem BytesP.below {S : Nat} {W W' : World} {p : Option Addr} {zs : List Nat} (h : BytesP S W p zs) (hb : Below S W W') : BytesP S W' p zs := fun j hj => by
  obtain ⟨b, off, e, hb', h8, hc⟩ := h j hj
  exact ⟨b, off, e, hb', h8, (hb.cell (p := ⟨b, off + j, none⟩) hb').trans hc⟩

/-- One of a round: what is pending of one mutator, and its answer. -/
def Res (S : Nat) (w : World) (B n : Nat) (kind count : Int) (ow : Nat → Bool) (m : Nat) (e : Ending) (w' : World) : Prop :=
  e = .returned (.int .i64 (if ow m then 0 else 11)) ∧ Bd S w w' B n kind count (upd ow m false)
theorem upd_same {ow : Nat → Bool} {m : Nat} {b : Bool} (h : ow m = b) : upd ow m b = ow := by
  funext k
  unfold upd
  split
  · next e => rw [e, h]
  · rfl

set_option maxRecDepth 100000 in
set_option maxHeartbeats 4000000 in
theorem rounds_walk (s : Nat) (hs : s < 256) (pa : Option Addr) (ca : Nat) (l : List Nat) (r : Nat) (hr : r < 256) (w : World) (ha : BytesP w.heap.size w pa l) (hla : l.length ≤ maxLen) :
    Calls Try.prog 5 #[.int .u8 s, .slice pa l.length ca, .int .u8 r] w fun e w' => e = .returned (.bool true) ∧ Below w.heap.size w w' := by
  unfold maxLen at hla
  have HA := Lib.hid ha
  clear ha
  by_cases hbig : 20 < l.length
  · have h1 : (20 : Int) < (l.length : Int) := by omega
    go_enter Try.func5, Try.ntmps5
    go_wp2_with fail
    refine (awake_any _).mono ?_
    rintro e w1 ⟨rfl, hb1⟩
    have HB1 := Lib.hid hb1
    clear hb1
    go_wp2
    go_ret
    exact ⟨rfl, HB1.out⟩
  have h1 : (l.length : Int) ≤ 20 := by omega
  have hd1 : decide ((20 : Int) < (l.length : Int)) = false := by simpa using h1
  obtain ⟨n, hn1, hn2, hn⟩ : ∃ k : Nat, 1 ≤ k ∧ k ≤ 8 ∧ 1 + (s : Int) % 8 = (k : Int) := ⟨1 + s % 8, by omega, by omega, by omega⟩
  obtain ⟨R, hR1, hR2, hR⟩ : ∃ k : Nat, 1 ≤ k ∧ k ≤ 4 ∧ 1 + (r : Int) % 4 = (k : Int) := ⟨1 + r % 4, by omega, by omega, by omega⟩
  have HR : Hid (1 + (r : Int) % 4 = (R : Int)) := Lib.hid hR
  clear hR
  go_enter Try.func5, Try.ntmps5
  go_wp2_with fail
  refine (new_good n _ (by omega) _ hn1 (by omega)).mono ?_
  rintro e w1 ⟨rfl, hs1, hb1, _⟩
  have HO := Lib.hid (Bd.new hs1 hb1)
  clear hs1 hb1
  generalize hB : w.heap.size = B at *
  have HS : Hid (B = w.heap.size) := Lib.hid hB.symm
  clear hB
  clear hn
  go_wp2_with fail
  go_loopw [10] (fun k wr => ∃ (c : Nat) (kind : Int) (ow : Nat → Bool), c ≤ R ∧ k = .int .i64 ((c : Int) + 1) ∧ Bd B w wr B n kind c ow ∧ ∀ m, m < n → ow m = false) (fun k _ => R + 1 - (intOf k).toNat)
  case atStart => exact ⟨0, 0, _, Nat.zero_le _, rfl, HO.out, fun _ _ => rfl⟩
  case round =>
    clear HO
    obtain ⟨c, kind, ow, hc, rfl, hst, hal⟩ := hrel
    have HO := Lib.hid hst
    have HAL := Lib.hid (allB_true.2 hal)
    clear hst hal
    by_cases hlt : c < R
    · have i1 : (c : Int) + 1 ≤ 1 + (r : Int) % 4 := by have := HR.out; omega
      have i0 : (0 : Int) ≤ (c : Int) := Int.natCast_nonneg _
      have i2 : (c : Int) ≤ 1000000 := by omega
      go_wp2_with fail
      refine (HO.out.ask (Nat.le_of_eq HS.out) _ HAL.out i0 i2).mono ?_
      rintro e w2 ⟨rfl, hst⟩
      have HO2 := Lib.hid hst
      clear hst HO HAL
      go_wp2_with fail
      refine (count_any _ HO2.out.st).mono ?_
      rintro e wa ⟨rfl, rfl⟩
      go_wp2_with fail
      go_loopw [11, 12] (fun left i wr => ∃ (d q : Nat) (ow : Nat → Bool), d ≤ l.length + n ∧ i = .int .i64 d ∧ left = .int .i64 q ∧ cnt n ow = q ∧ Bd B w wr B n ((c : Int) + 1) ((c : Int) + 1) ow ∧ ∀ j, j + l.length < d → ow j = false) (fun _ i _ => l.length + n - (intOf i).toNat)
      case atStart => exact ⟨0, n, _, Nat.zero_le _, rfl, rfl, cnt_full (fun m hm => by simp [hm]), HO2.out, fun j hj => by omega⟩
      case round =>
        clear HO2
        obtain ⟨d, q, ow, hd, rfl, rfl, hq, hst, hno⟩ := hrel
        have HO := Lib.hid hst
        have HNO := Lib.hid hno
        have HQ := Lib.hid hq
        clear hst hno hq
        have j0 : (0 : Int) ≤ (d : Int) := Int.natCast_nonneg _
        by_cases hdl : d < l.length + n
        · have j1 : (d : Int) < (l.length : Int) + (n : Int) := by omega
          have jn : (1 : Int) ≤ (n : Int) := by omega
          by_cases hcl : d < l.length
          · obtain ⟨b, off, rfl, hbS, h8, hcx⟩ := (HA.out.below HO.out.bel) d hcl
            have j3 : (d : Int) < (l.length : Int) := by omega
            generalize l.getD d 0 = x at *
            obtain ⟨m, hm, hme⟩ : ∃ m : Nat, m < n ∧ (x : Int) % (n : Int) = m := ⟨x % n, Nat.mod_lt _ (by omega), by simp⟩
            have HNEW : Hid (∀ j, j + l.length < d + 1 → upd ow m false j = false) := Lib.hid fun j hj => by omega
            cases hb : ow m with
            | false =>
              have HB := Lib.hid hb
              clear hb
              have hsame := upd_same HB.out
              have hall := HO.out.all (Nat.le_of_eq HS.out)
              obtain ⟨t, ht, ht2⟩ : ∃ t, allB n ow = t ∧ ((q : Int) == 0) = t := ⟨_, rfl, by rw [allB_cnt, HQ.out, Bool.eq_iff_iff]; simp⟩
              rw [ht] at hall
              have htt : (t != t) = false := by simp
              have HALL := Lib.hid hall
              have HSAME := Lib.hid hsame
              clear hall hsame ht
              go_wp2_with fail
              refine (pend_shut m _ HO.out.st hm HB.out).mono ?_
              rintro e wa ⟨rfl, rfl⟩
              go_wp2_with fail
              refine HALL.out.mono ?_
              rintro e w3 ⟨rfl, hst⟩
              have HO3 := Lib.hid hst
              clear hst
              go_wp2_with fail
              refine (ans_shut m _ HO3.out.st hm HB.out).mono ?_
              rintro e wa ⟨rfl, rfl⟩
              go_wp2
              go_roundw
              case rel => exact ⟨d + 1, q, ow, by omega, by go_num, rfl, HQ.out, HO3.out, fun j hj => by have := HNEW.out j hj; rwa [HSAME.out] at this⟩
              case measure => simp [intOf]; omega
            | true =>
              have HB := Lib.hid hb
              clear hb
              have hall := HO.out.all (Nat.le_of_eq HS.out)
              obtain ⟨p, rfl⟩ : ∃ p, q = p + 1 := ⟨q - 1, by have := cnt_upd hm HB.out; have := HQ.out; omega⟩
              have hqp : cnt n (upd ow m false) = p := by have := cnt_upd hm HB.out; have := HQ.out; omega
              have hp8 : p < 8 := by have := cnt_le n ow; have := HQ.out; omega
              rw [allB_cnt, HQ.out] at hall
              have hall2 : Calls Try.prog 13 #[.pointer (some ⟨B, 0, none⟩)] wr fun e w' => e = .returned (.bool false) ∧ Bd B w w' B n ((c : Int) + 1) ((c : Int) + 1) ow := by simpa using hall
              have HALL := Lib.hid hall2
              have HQP := Lib.hid hqp
              clear hall hall2 hqp
              go_wp2_with fail
              refine (pend_open m _ HO.out.st hm HB.out).mono ?_
              rintro e wa ⟨rfl, rfl⟩
              go_wp2_with fail
              refine HALL.out.mono ?_
              rintro e w3 ⟨rfl, hst⟩
              have HO3 := Lib.hid hst
              clear hst
              go_wp2_with fail
              refine (HO3.out.answer (Nat.le_of_eq HS.out) m hm HB.out).mono ?_
              rintro e w4 ⟨rfl, hst⟩
              have HO4 := Lib.hid hst
              clear hst
              go_wp2
              go_roundw
              case rel => exact ⟨d + 1, p, _, by omega, by go_num, by go_num, HQP.out, HO4.out, HNEW.out⟩
              case measure => simp [intOf]; omega
          · have j3 : ¬ (d : Int) < (l.length : Int) := by omega
            obtain ⟨m, hm, hme⟩ : ∃ m : Nat, m < n ∧ (d : Int) - (l.length : Int) = m := ⟨d - l.length, by omega, by omega⟩
            have HNEW : Hid (∀ j, j + l.length < d + 1 → upd ow m false j = false) := Lib.hid fun j hj => by
              by_cases e : j = m
              · unfold upd; rw [if_pos e]
              · exact upd_false (HNO.out j (by omega))
            cases hb : ow m with
            | false =>
              have HB := Lib.hid hb
              clear hb
              have hsame := upd_same HB.out
              have hall := HO.out.all (Nat.le_of_eq HS.out)
              obtain ⟨t, ht, ht2⟩ : ∃ t, allB n ow = t ∧ ((q : Int) == 0) = t := ⟨_, rfl, by rw [allB_cnt, HQ.out, Bool.eq_iff_iff]; simp⟩
              rw [ht] at hall
              have htt : (t != t) = false := by simp
              have HALL := Lib.hid hall
              have HSAME := Lib.hid hsame
              clear hall hsame ht
              go_wp2_with fail
              refine (pend_shut m _ HO.out.st hm HB.out).mono ?_
              rintro e wa ⟨rfl, rfl⟩
              go_wp2_with fail
              refine HALL.out.mono ?_
              rintro e w3 ⟨rfl, hst⟩
              have HO3 := Lib.hid hst
              clear hst
              go_wp2_with fail
              refine (ans_shut m _ HO3.out.st hm HB.out).mono ?_
              rintro e wa ⟨rfl, rfl⟩
              go_wp2
              go_roundw
              case rel => exact ⟨d + 1, q, ow, by omega, by go_num, rfl, HQ.out, HO3.out, fun j hj => by have := HNEW.out j hj; rwa [HSAME.out] at this⟩
              case measure => simp [intOf]; omega
            | true =>
              have HB := Lib.hid hb
              clear hb
              have hall := HO.out.all (Nat.le_of_eq HS.out)
              obtain ⟨p, rfl⟩ : ∃ p, q = p + 1 := ⟨q - 1, by have := cnt_upd hm HB.out; have := HQ.out; omega⟩
              have hqp : cnt n (upd ow m false) = p := by have := cnt_upd hm HB.out; have := HQ.out; omega
              have hp8 : p < 8 := by have := cnt_le n ow; have := HQ.out; omega
              rw [allB_cnt, HQ.out] at hall
              have hall2 : Calls Try.prog 13 #[.pointer (some ⟨B, 0, none⟩)] wr fun e w' => e = .returned (.bool false) ∧ Bd B w w' B n ((c : Int) + 1) ((c : Int) + 1) ow := by simpa using hall
              have HALL := Lib.hid hall2
              have HQP := Lib.hid hqp
              clear hall hall2 hqp
              go_wp2_with fail
              refine (pend_open m _ HO.out.st hm HB.out).mono ?_
              rintro e wa ⟨rfl, rfl⟩
              go_wp2_with fail
              refine HALL.out.mono ?_
              rintro e w3 ⟨rfl, hst⟩
              have HO3 := Lib.hid hst
              clear hst
              go_wp2_with fail
              refine (HO3.out.answer (Nat.le_of_eq HS.out) m hm HB.out).mono ?_
              rintro e w4 ⟨rfl, hst⟩
              have HO4 := Lib.hid hst
              clear hst
              go_wp2
              go_roundw
              case rel => exact ⟨d + 1, p, _, by omega, by go_num, by go_num, HQP.out, HO4.out, HNEW.out⟩
              case measure => simp [intOf]; omega
        · have j1 : ¬ (d : Int) < (l.length : Int) + (n : Int) := by omega
          have hz : q = 0 := by rw [← HQ.out]; exact cnt_zero.2 (fun m hm => HNO.out m (by omega))
          subst hz
          have HT := Lib.hid (cnt_zero.1 HQ.out)
          have hall := HO.out.all (Nat.le_of_eq HS.out)
          rw [allB_true.2 HT.out] at hall
          have HALL := Lib.hid hall
          clear hall
          go_wp2_with fail
          refine HALL.out.mono ?_
          rintro e w3 ⟨rfl, hst⟩
          have HO3 := Lib.hid hst
          clear hst
          go_wp2
          go_roundw
          case rel => exact ⟨c + 1, _, _, by omega, by go_num, by have := HO3.out; simpa using this, HT.out⟩
          case measure => simp [intOf]; omega
    · obtain rfl : c = R := by omega
      have i1 : ¬ (c : Int) + 1 ≤ 1 + (r : Int) % 4 := by have := HR.out; omega
      go_wp2_with fail
      refine (awake_any _).mono ?_
      rintro e w5 ⟨rfl, hb5⟩
      have HB5 := Lib.hid hb5
      clear hb5
      go_wp2
      go_ret
      exact ⟨rfl, (HS.out ▸ HO.out.bel).trans (HB5.out.mono (HS.out ▸ HO.out.bel).size)⟩
end Go.Proofs.Ythkhngnfpljbbaa.Brd
