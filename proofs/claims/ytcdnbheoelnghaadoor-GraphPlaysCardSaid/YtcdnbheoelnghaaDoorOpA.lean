/-
  op: the table of forms; is, Name, Uses, below, fault, Bare$1, told's parts.
-/
import Derived.Test.YtcdnbheoelnghaaDoorConfigR
import Derived.Test.YtcdnbheoelnghaaDoorRowB
namespace Go.Proofs.YtcdnbheoelnghaaDoor.Opr
open Go.RowKit

/-- Is there such a kind? -/
def isK (k : Int) : Bool := decide (1 ≤ k) && decide (k ≤ 8)
/-- Its word's bytes. -/
def wordK (k : Nat) : List UInt8 := match k with
  | 1 => [97, 108, 108, 111, 99]
  | 2 => [108, 111, 97, 100]
  | 3 => [115, 116, 111, 114, 101]
  | 4 => [103, 101, 116]
  | 5 => [115, 101, 116]
  | 6 => [100, 114, 111, 112]
  | 7 => [109, 111, 118, 101]
  | 8 => [115, 97, 102, 101]
  | _ => []
/-- What a number stands for: 0 nothing, 1 a register, 2 a cell, 3 a size, 4 a field. -/
def useK (k p : Nat) : Nat := match k, p with
  | 1, 0 => 1 | 1, 1 => 3
  | 2, 0 => 1 | 2, 1 => 1 | 2, 2 => 4
  | 3, 0 => 1 | 3, 1 => 4 | 3, 2 => 1
  | 4, 0 => 1 | 4, 1 => 2
  | 5, 0 => 2 | 5, 1 => 1
  | 6, 0 => 1
  | 7, 0 => 1 | 7, 1 => 1
  | _, _ => 0
def usesK (k : Nat) : Nat := match k with
  | 2 => 3 | 3 => 3 | 1 => 2 | 4 => 2 | 5 => 2 | 7 => 2 | 6 => 1 | _ => 0
/-- The same of any number. -/
def wordI (k : Int) : List UInt8 := if isK k then wordK k.toNat else []
def usesI (k : Int) : Nat := if isK k then usesK k.toNat else 0
theorem isK_nat {k : Int} (h : isK k = true) : ∃ n : Nat, k = n ∧ 1 ≤ n ∧ n ≤ 8 := by
  simp only [isK, Bool.and_eq_true, decide_eq_true_eq] at h
  exact ⟨k.toNat, by omega, by omega, by omega⟩
theorem isK_of {n : Nat} (h1 : 1 ≤ n) (h8 : n ≤ 8) : isK (n : Int) = true := by
  simp only [isK, Bool.and_eq_true, decide_eq_true_eq]; omega
theorem isK_cases {k : Int} (h : isK k = true) : k = 1 ∨ k = 2 ∨ k = 3 ∨ k = 4 ∨ k = 5 ∨ k = 6 ∨ k = 7 ∨ k = 8 := by
  simp only [isK, Bool.and_eq_true, decide_eq_true_eq] at h; omega
theorem usesI_le (k : Int) : usesI k ≤ 3 := by
  unfold usesI
  split
  · unfold usesK; split <;> omega
  · omega

def bs (l : List UInt8) : ByteArray := ⟨l.toArray⟩

/-- The table of forms. -/
structure FormTab (w : World) : Prop where
  word : ∀ k, k < 9 → w.cell? ⟨0, k * 4, none⟩ = some (.string (bs (wordK k)))
  use : ∀ k p, k < 9 → p < 3 → w.cell? ⟨0, k * 4 + 1 + p, none⟩ = some (.int .i64 (useK k p))
  blk : 0 < w.heap.size
theorem FormTab.below {n : Nat} {w w' : World} (h : FormTab w) (hb : Below n w w') (hn : 0 < n) : FormTab w' :=
  ⟨fun k hk => (hb.cell (p := ⟨_, _, none⟩) hn).trans (h.word k hk), fun k p hk hp => (hb.cell (p := ⟨_, _, none⟩) hn).trans (h.use k p hk hp), Nat.lt_of_lt_of_le h.blk hb.size⟩
theorem FormTab.later {w w' : World} (h : FormTab w) (hb : Below w.heap.size w w') : FormTab w' := h.below hb h.blk
theorem FormTab.drewN {w : World} (h : FormTab w) (n : Nat) : FormTab (w.drewN n) := h.later (below_drewN (Below.refl _ _) n)
theorem FormTab.drew {w : World} (h : FormTab w) : FormTab w.drew := h.later (below_drewN (Below.refl _ _) 1)
theorem FormTab.alloc {w : World} (h : FormTab w) (o : Obj) : FormTab (w.alloc o) := h.later ((Below.refl _ _).alloc (Nat.le_refl _) _)

theorem is_any (k : Int) (w : World) :
    Calls Tryd.prog 39 #[.int .i64 k] w fun e w' => e = .returned (.bool (isK k)) ∧ w' = w := by
  go_enter Tryd.func39, Tryd.ntmps39
  by_cases h1 : 1 ≤ k
  · by_cases h2 : k ≤ 8
    · have e : isK k = true := by simp [isK, h1, h2]
      go_wp2
      go_ret
      exact ⟨by rw [e]; rfl, rfl⟩
    · have e : isK k = false := by simp [isK, h2]
      go_wp2
      go_ret
      exact ⟨rfl, rfl⟩
  · have e : isK k = false := by simp [isK, h1]
    go_wp2
    go_ret
    exact ⟨rfl, rfl⟩

theorem below_any (n e : Int) (w : World) :
    Calls Tryd.prog 59 #[.int .i64 n, .int .i64 e] w fun r w' => r = .returned (.bool (decide (0 ≤ n) && decide (n < e))) ∧ w' = w := by
  go_enter Tryd.func59, Tryd.ntmps59
  by_cases h1 : 0 ≤ n
  · by_cases h2 : n < e
    · have e : (decide (0 ≤ n) && decide (n < e)) = true := by simp [h1, h2]
      rw [e]
      go_wp2
      go_ret
      exact ⟨rfl, rfl⟩
    · have e : (decide (0 ≤ n) && decide (n < e)) = false := by simp [h2]
      rw [e]
      go_wp2
      go_ret
      exact ⟨rfl, rfl⟩
  · have e : (decide (0 ≤ n) && decide (n < e)) = false := by simp [h1]
    rw [e]
    go_wp2
    go_ret
    exact ⟨rfl, rfl⟩

/-- How many numbers a kind uses, one behind the other. -/
def cnt (k : Nat) : Nat → Nat
  | 0 => 0
  | p + 1 => cnt k p + (if useK k p = 0 then 0 else 1)
theorem cnt_three {k : Nat} (h : k < 9) : cnt k 3 = usesK k := by
  have h9 : k = 0 ∨ k = 1 ∨ k = 2 ∨ k = 3 ∨ k = 4 ∨ k = 5 ∨ k = 6 ∨ k = 7 ∨ k = 8 := by omega
  rcases h9 with rfl | rfl | rfl | rfl | rfl | rfl | rfl | rfl | rfl <;> rfl
theorem useK_le (k p : Nat) : useK k p ≤ 4 := by
  unfold useK; split <;> omega
theorem cnt_le (k : Nat) : ∀ p, cnt k p ≤ p
  | 0 => Nat.le_refl _
  | p + 1 => by have := cnt_le k p; unfold cnt; split <;> omega

set_option maxRecDepth 100000 in
set_option maxHeartbeats 1000000 in
theorem uses_any (k : Int) (w : World) (ht : FormTab w) :
    Calls Tryd.prog 58 #[.int .i64 k] w fun e w' => e = .returned (.int .i64 (usesI k)) ∧ w' = w := by
  have HT := Lib.hid ht
  clear ht
  cases h : isK k with
  | false =>
    have e : usesI k = 0 := by simp [usesI, h]
    rw [e]
    go_enter Tryd.func58, Tryd.ntmps58
    go_wp2_with (go_at_call 39; refine (is_any _ _).mono ?_; rw [h]; rintro e w' ⟨rfl, rfl⟩)
    go_ret
    exact ⟨rfl, rfl⟩
  | true =>
    obtain ⟨n, rfl, n1, n8⟩ := isK_nat h
    have u0 := HT.out.use n 0 (by omega) (by omega)
    have u1 := HT.out.use n 1 (by omega) (by omega)
    have u2 := HT.out.use n 2 (by omega) (by omega)
    have e : usesI (n : Int) = cnt n 3 := by simp [usesI, h, cnt_three (show n < 9 by omega)]
    rw [e]
    have i0 : (0 : Int) ≤ (n : Int) := by omega
    have i9 : (n : Int) < 9 := by omega
    go_enter Tryd.func58, Tryd.ntmps58
    go_wp2_with (go_at_call 39; refine (is_any _ _).mono ?_; rw [h]; rintro e w' ⟨rfl, rfl⟩)
    go_loop [3, 13] (fun c i => ∃ p : Nat, p ≤ 3 ∧ c = .int .i64 (cnt n p) ∧ i = .int .i64 p) (fun _ i => 3 - (intOf i).toNat)
    case atStart => exact ⟨0, by omega, rfl, rfl⟩
    case round =>
      obtain ⟨p, hp, rfl, rfl⟩ := hrel
      have hc := cnt_le n p
      by_cases hlt : p < 3
      · have hstep : cnt n (p + 1) = cnt n p + (if useK n p = 0 then 0 else 1) := rfl
        have p0 : (0 : Int) ≤ (p : Int) := by omega
        have p3 : (p : Int) < 3 := by omega
        have hg : (Instr.index 80 (.agg #[Value.int .i64 (useK n 0), Value.int .i64 (useK n 1), Value.int .i64 (useK n 2)]) (.int .i64 p)).run Tryd.prog w' = .ok (.int .i64 (useK n p)) w' := by
          have h3 : p = 0 ∨ p = 1 ∨ p = 2 := by omega
          rcases h3 with rfl | rfl | rfl <;> rfl
        by_cases hu : useK n p = 0
        · rw [if_pos hu] at hstep
          have hu' : ((useK n p : Int) != 0) = false := by simp [hu]
          go_wp2
          go_round
          case rel => exact ⟨p + 1, by omega, by rw [hstep]; rfl, by go_num⟩
          case measure => simp [intOf]; omega
        · rw [if_neg hu] at hstep
          have hu' : ((useK n p : Int) != 0) = true := by simp [hu]
          go_wp2
          go_round
          case rel => exact ⟨p + 1, by omega, by rw [hstep]; go_num, by go_num⟩
          case measure => simp [intOf]; omega
      · obtain rfl : p = 3 := by omega
        go_wp2
        go_ret
        exact ⟨rfl, rfl⟩
end Go.Proofs.YtcdnbheoelnghaaDoor.Opr
