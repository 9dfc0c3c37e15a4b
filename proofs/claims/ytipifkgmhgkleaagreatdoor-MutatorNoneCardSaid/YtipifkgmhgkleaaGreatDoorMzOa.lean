/-
  Texts one behind the other: OpA OpC OpG (theorems that nobody names are left out).
-/
import Derived.Test.YtipifkgmhgkleaaGreatDoorMzBa
import Derived.WalkSmall
import Derived.Deep.RegionWith
import Derived.Lib.QuietBelow
import Derived.BigQuiet
namespace Go.Proofs.YtipifkgmhgkleaaGreatDoor.Opr
open Go.RowKit

/-- Is there such a kind? -/
def isK (k : Int) : Bool := decide (1 ≤ k) && decide (k ≤ 8)
/-- Its word's bytes. -/
def wordK (k : Nat) : List UInt8 := match k with
  | 1 => [97, 108, 108, 111, 99]
  | 2 => [108, 111, 97, 100]
  | 3 => [115, 116, 111, 114, 101]
  | 4 => [103, 101, 116]
  | 5 => [115, 101, 116]
  | 6 => [100, 114, 111, 112]
  | 7 => [109, 111, 118, 101]
  | 8 => [115, 97, 102, 101]
  | _ => []
/-- What a number stands for: 0 nothing, 1 a register, 2 a cell, 3 a size, 4 a field. -/
def useK (k p : Nat) : Nat := match k, p with
  | 1, 0 => 1 | 1, 1 => 3
  | 2, 0 => 1 | 2, 1 => 1 | 2, 2 => 4
  | 3, 0 => 1 | 3, 1 => 4 | 3, 2 => 1
  | 4, 0 => 1 | 4, 1 => 2
  | 5, 0 => 2 | 5, 1 => 1
  | 6, 0 => 1
  | 7, 0 => 1 | 7, 1 => 1
  | _, _ => 0
def usesK (k : Nat) : Nat := match k with
  | 2 => 3 | 3 => 3 | 1 => 2 | 4 => 2 | 5 => 2 | 7 => 2 | 6 => 1 | _ => 0
/-- The same of any number. -/
def wordI (k : Int) : List UInt8 := if isK k then wordK k.toNat else []
def usesI (k : Int) : Nat := if isK k then usesK k.toNat else 0
theorem isK_nat {k : Int} (h : isK k = true) : ∃ n : Nat, k = n ∧ 1 ≤ n ∧ n ≤ 8 := by
  simp only [isK, Bool.and_eq_true, decide_eq_true_eq] at h
  exact ⟨k.toNat, by omega, by omega, by omega⟩
theorem usesI_le (k : Int) : usesI k ≤ 3 := by
  unfold usesI
  split
  · unfold usesK; split <;> omega
  · omega

def bs (l : List UInt8) : ByteArray := ⟨l.toArray⟩

/-- The table of forms. -/
structure FormTab (w : World) : Prop where
  word : ∀ k, k < 9 → w.cell? ⟨1, k * 4, none⟩ = some (.string (bs (wordK k)))
  use : ∀ k p, k < 9 → p < 3 → w.cell? ⟨1, k * 4 + 1 + p, none⟩ = some (.int .i64 (useK k p))
  blk : 1 < w.heap.size
theorem FormTab.below {n : Nat} {w w' : World} (h : FormTab w) (hb : Below n w w') (hn : 1 < n) : FormTab w' :=
  ⟨fun k hk => (hb.cell (p := ⟨_, _, none⟩) hn).trans (h.word k hk), fun k p hk hp => (hb.cell (p := ⟨_, _, none⟩) hn).trans (h.use k p hk hp), Nat.lt_of_lt_of_le h.blk hb.size⟩
theorem FormTab.later {w w' : World} (h : FormTab w) (hb : Below w.heap.size w w') : FormTab w' := h.below hb h.blk
theorem FormTab.drewN {w : World} (h : FormTab w) (n : Nat) : FormTab (w.drewN n) := h.later (below_drewN (Below.refl _ _) n)
theorem FormTab.drew {w : World} (h : FormTab w) : FormTab w.drew := h.later (below_drewN (Below.refl _ _) 1)
theorem FormTab.alloc {w : World} (h : FormTab w) (o : Obj) : FormTab (w.alloc o) := h.later ((Below.refl _ _).alloc (Nat.le_refl _) _)

theorem is_any (k : Int) (w : World) :
    Calls Tryz.prog 122 #[.int .i64 k] w fun e w' => e = .returned (.bool (isK k)) ∧ w' = w := by
  go_enter Tryz.func122, Tryz.ntmps122
  by_cases h1 : 1 ≤ k
  · by_cases h2 : k ≤ 8
    · have e : isK k = true := by simp [isK, h1, h2]
      go_wp2
      go_ret
      exact ⟨by rw [e]; rfl, rfl⟩
    · have e : isK k = false := by simp [isK, h2]
      go_wp2
      go_ret
      exact ⟨rfl, rfl⟩
  · have e : isK k = false := by simp [isK, h1]
    go_wp2
    go_ret
    exact ⟨rfl, rfl⟩

theorem below_any (n e : Int) (w : World) :
    Calls Tryz.prog 188 #[.int .i64 n, .int .i64 e] w fun r w' => r = .returned (.bool (decide (0 ≤ n) && decide (n < e))) ∧ w' = w := by
  go_enter Tryz.func188, Tryz.ntmps188
  by_cases h1 : 0 ≤ n
  · by_cases h2 : n < e
    · have e : (decide (0 ≤ n) && decide (n < e)) = true := by simp [h1, h2]
      rw [e]
      go_wp2
      go_ret
      exact ⟨rfl, rfl⟩
    · have e : (decide (0 ≤ n) && decide (n < e)) = false := by simp [h2]
      rw [e]
      go_wp2
      go_ret
      exact ⟨rfl, rfl⟩
  · have e : (decide (0 ≤ n) && decide (n < e)) = false := by simp [h1]
    rw [e]
    go_wp2
    go_ret
    exact ⟨rfl, rfl⟩

/-- How many numbers a kind uses, one behind the other. -/
def cnt (k : Nat) : Nat → Nat
  | 0 => 0
  | p + 1 => cnt k p + (if useK k p = 0 then 0 else 1)
theorem cnt_three {k : Nat} (h : k < 9) : cnt k 3 = usesK k := by
  have h9 : k = 0 ∨ k = 1 ∨ k = 2 ∨ k = 3 ∨ k = 4 ∨ k = 5 ∨ k = 6 ∨ k = 7 ∨ k = 8 := by omega
  rcases h9 with rfl | rfl | rfl | rfl | rfl | rfl | rfl | rfl | rfl <;> rfl
theorem cnt_le (k : Nat) : ∀ p, cnt k p ≤ p
  | 0 => Nat.le_refl _
  | p + 1 => by have := cnt_le k p; unfold cnt; split <;> omega

set_option maxRecDepth 100000 in
set_option maxHeartbeats 1000000 in
theorem uses_any (k : Int) (w : World) (ht : FormTab w) :
    Calls Tryz.prog 158 #[.int .i64 k] w fun e w' => e = .returned (.int .i64 (usesI k)) ∧ w' = w := by
  have HT := Lib.hid ht
  clear ht
  cases h : isK k with
  | false =>
    have e : usesI k = 0 := by simp [usesI, h]
    rw [e]
    go_enter Tryz.func158, Tryz.ntmps158
    go_wp2_with (go_at_call 122; refine (is_any _ _).mono ?_; rw [h]; rintro e w' ⟨rfl, rfl⟩)
    go_ret
    exact ⟨rfl, rfl⟩
  | true =>
    obtain ⟨n, rfl, n1, n8⟩ := isK_nat h
    have u0 := HT.out.use n 0 (by omega) (by omega)
    have u1 := HT.out.use n 1 (by omega) (by omega)
    have u2 := HT.out.use n 2 (by omega) (by omega)
    have e : usesI (n : Int) = cnt n 3 := by simp [usesI, h, cnt_three (show n < 9 by omega)]
    rw [e]
    have i0 : (0 : Int) ≤ (n : Int) := by omega
    have i9 : (n : Int) < 9 := by omega
    go_enter Tryz.func158, Tryz.ntmps158
    go_wp2_with (go_at_call 122; refine (is_any _ _).mono ?_; rw [h]; rintro e w' ⟨rfl, rfl⟩)
    go_loop [3, 13] (fun c i => ∃ p : Nat, p ≤ 3 ∧ c = .int .i64 (cnt n p) ∧ i = .int .i64 p) (fun _ i => 3 - (intOf i).toNat)
    case atStart => exact ⟨0, by omega, rfl, rfl⟩
    case round =>
      obtain ⟨p, hp, rfl, rfl⟩ := hrel
      have hc := cnt_le n p
      by_cases hlt : p < 3
      · have hstep : cnt n (p + 1) = cnt n p + (if useK n p = 0 then 0 else 1) := rfl
        have p0 : (0 : Int) ≤ (p : Int) := by omega
        have p3 : (p : Int) < 3 := by omega
        have hg : (Instr.index 202 (.agg #[Value.int .i64 (useK n 0), Value.int .i64 (useK n 1), Value.int .i64 (useK n 2)]) (.int .i64 p)).run Tryz.prog w' = .ok (.int .i64 (useK n p)) w' := by
          have h3 : p = 0 ∨ p = 1 ∨ p = 2 := by omega
          rcases h3 with rfl | rfl | rfl <;> rfl
        by_cases hu : useK n p = 0
        · rw [if_pos hu] at hstep
          have hu' : ((useK n p : Int) != 0) = false := by simp [hu]
          go_wp2
          go_round
          case rel => exact ⟨p + 1, by omega, by rw [hstep]; rfl, by go_num⟩
          case measure => simp [intOf]; omega
        · rw [if_neg hu] at hstep
          have hu' : ((useK n p : Int) != 0) = true := by simp [hu]
          go_wp2
          go_round
          case rel => exact ⟨p + 1, by omega, by rw [hstep]; go_num, by go_num⟩
          case measure => simp [intOf]; omega
      · obtain rfl : p = 3 := by omega
        go_wp2
        go_ret
        exact ⟨rfl, rfl⟩
end Go.Proofs.YtipifkgmhgkleaaGreatDoor.Opr

namespace Go.Proofs.YtipifkgmhgkleaaGreatDoor.Opr
open Go.RowKit

def inI (n : Int) : Prop := -9223372036854775808 ≤ n ∧ n ≤ 9223372036854775807
theorem lt_of_cell {w : World} {p : Addr} {v : Value} (h : w.cell? p = some v) : p.block < w.heap.size := World.block_lt_of_cell? w _ h
/-- What an operation of three numbers has at a place. -/
def numAt (a b c : Int) (p : Nat) : Int := match p with | 0 => a | 1 => b | _ => c

/-- An operation as it lies. -/
def opV (k a b c : Int) : Value := .agg #[.int .i64 k, .int .i64 a, .int .i64 b, .int .i64 c]

set_option maxRecDepth 100000 in
set_option maxHeartbeats 2000000 in
theorem numbers_any (k a b c : Int) (w : World) (ht : FormTab w) :
    Calls Tryz.prog 123 #[.agg #[.int .i64 k, .int .i64 a, .int .i64 b, .int .i64 c]] w fun e w' => ∃ N, w.heap.size ≤ N ∧ e = .returned (.slice (some ⟨N, 0, none⟩) (usesI k) 3) ∧
      w'.cell? ⟨N, 0, none⟩ = some (.int .i64 a) ∧ w'.cell? ⟨N, 1, none⟩ = some (.int .i64 b) ∧ w'.cell? ⟨N, 2, none⟩ = some (.int .i64 c) ∧ Below w.heap.size w w' := by
  have HT := Lib.hid ht
  clear ht
  have hu := usesI_le k
  generalize hU : usesI k = u at hu
  have HU := Lib.hid hU
  clear hU
  have u0 : (0 : Int) ≤ (u : Int) := by omega
  have u3 : (u : Int) ≤ 3 := by omega
  have HF : Hid (∀ W, Below w.heap.size w W → FormTab W) := Lib.hid fun W h => HT.out.later h
  have HUS : Hid (∀ W, Below w.heap.size w W → Calls Tryz.prog 158 #[.int .i64 k] W fun e w' => e = .returned (.int .i64 u) ∧ w' = W) := Lib.hid fun W h => by rw [← HU.out]; exact uses_any k W (HF.out W h)
  have HK2 : Hid (∀ W W', Below w.heap.size w W ∧ W.cell? ⟨w.heap.size, 0, none⟩ = some (.int .i64 k) ∧ W.cell? ⟨w.heap.size, 1, none⟩ = some (.int .i64 a) ∧ W.cell? ⟨w.heap.size, 2, none⟩ = some (.int .i64 b) ∧ W.cell? ⟨w.heap.size, 3, none⟩ = some (.int .i64 c) → Below W.heap.size W W' →
      Below w.heap.size w W' ∧ W'.cell? ⟨w.heap.size, 0, none⟩ = some (.int .i64 k) ∧ W'.cell? ⟨w.heap.size, 1, none⟩ = some (.int .i64 a) ∧ W'.cell? ⟨w.heap.size, 2, none⟩ = some (.int .i64 b) ∧ W'.cell? ⟨w.heap.size, 3, none⟩ = some (.int .i64 c)) := Lib.hid fun W W' ⟨h0, h1, h2, h3, h4⟩ h => by
    have hl : w.heap.size < W.heap.size := lt_of_cell h1
    exact ⟨h0.trans (h.mono h0.size), (h.cell (p := ⟨_, _, none⟩) hl).trans h1, (h.cell (p := ⟨_, _, none⟩) hl).trans h2, (h.cell (p := ⟨_, _, none⟩) hl).trans h3, (h.cell (p := ⟨_, _, none⟩) hl).trans h4⟩
  have HA : Hid (∀ (W : World) (o : Obj), Below W.heap.size W (W.alloc o)) := Lib.hid fun W o => (Below.refl _ _).alloc (Nat.le_refl _) o
  have HAD : Hid (∀ (W : World) (o : Obj), Below W.heap.size W (W.alloc o).drew) := Lib.hid fun W o => below_drewN ((Below.refl _ _).alloc (Nat.le_refl _) o) 1
  have HK0 : Hid (Below w.heap.size w (w.alloc (.cells #[.int .i64 k, .int .i64 a, .int .i64 b, .int .i64 c] 72)).drew ∧ (w.alloc (.cells #[.int .i64 k, .int .i64 a, .int .i64 b, .int .i64 c] 72)).drew.cell? ⟨w.heap.size, 0, none⟩ = some (.int .i64 k) ∧ (w.alloc (.cells #[.int .i64 k, .int .i64 a, .int .i64 b, .int .i64 c] 72)).drew.cell? ⟨w.heap.size, 1, none⟩ = some (.int .i64 a) ∧ (w.alloc (.cells #[.int .i64 k, .int .i64 a, .int .i64 b, .int .i64 c] 72)).drew.cell? ⟨w.heap.size, 2, none⟩ = some (.int .i64 b) ∧ (w.alloc (.cells #[.int .i64 k, .int .i64 a, .int .i64 b, .int .i64 c] 72)).drew.cell? ⟨w.heap.size, 3, none⟩ = some (.int .i64 c)) := Lib.hid ⟨HAD.out _ _, by simp, by simp, by simp, by simp⟩
  go_enter Tryz.func123, Tryz.ntmps123
  go_wp2_with fail
  go_region_held3 (fun W => Below w.heap.size w W ∧ W.cell? ⟨w.heap.size, 0, none⟩ = some (.int .i64 k) ∧ W.cell? ⟨w.heap.size, 1, none⟩ = some (.int .i64 a) ∧ W.cell? ⟨w.heap.size, 2, none⟩ = some (.int .i64 b) ∧ W.cell? ⟨w.heap.size, 3, none⟩ = some (.int .i64 c))
    (first | exact HK0.out | assumption | exact HK2.out _ _ (by assumption) (HAD.out _ _) | exact HK2.out _ _ (by assumption) (HA.out _ _) | exact HK2.out _ _ HK0.out (HAD.out _ _) | exact HK2.out _ _ HK0.out (HA.out _ _))
    (first
      | (go_at_call 158; refine (HUS.out _ (And.left (by assumption))).mono ?_; rintro e w' ⟨rfl, rfl⟩))
  all_goals go_wp2
  all_goals go_ret
  all_goals exact ⟨w.heap.size + 1, by omega, rfl, by simp, by simp, by simp, below_drewN (((Below.refl _ _).alloc (Nat.le_refl _) _).alloc (by simp) _) 1⟩

/-- The number of a place, or 0. -/
def pk (u : Nat) (f : Nat → Int) (p : Nat) : Int := if p < u then f p else 0
/-- What a number of a place is told as. -/
def TellsB (F : Nat) (bx : Addr) (u : Nat) (f : Nat → Int) (B : Nat) (w : World) : Prop :=
  ∀ (p : Nat) (W : World), p < u → Below B w W → Calls Tryz.prog F #[.int .i64 p, .pointer (some bx)] W fun e w' => e = .returned (.int .i64 (f p)) ∧ Below W.heap.size W w'

theorem uses_cases (k : Nat) : usesK k = 0 ∨ usesK k = 1 ∨ usesK k = 2 ∨ usesK k = 3 := by unfold usesK; split <;> omega

end Go.Proofs.YtipifkgmhgkleaaGreatDoor.Opr

namespace Go.Proofs.YtipifkgmhgkleaaGreatDoor.Opr
open Go.RowKit

/-- A number that may stand below an end. -/
def belowB (n e : Int) : Bool := decide (0 ≤ n) && decide (n < e)
/-- What is wrong with a number, by what it stands for. -/
def faultE (r ce : Int) (u : Nat) (n : Int) : Int := if u = 1 ∧ belowB n r = false then 5 else if u = 2 ∧ belowB n ce = false then 9 else if u = 3 ∧ belowB n 16 = false then 8 else 0

set_option maxRecDepth 100000 in
set_option maxHeartbeats 2000000 in
theorem fault_any (b wd m r ce lg st : Int) (u : Nat) (n : Int) (w : World) :
    Calls Tryz.prog 144 #[.agg #[.int .i64 b, .int .i64 wd, .int .i64 m, .int .i64 r, .int .i64 ce, .int .i64 lg, .int .i64 st], .int .i64 u, .int .i64 n] w fun e w' => e = .returned (.int .i64 (faultE r ce u n)) ∧ Below w.heap.size w w' := by
  have hA : Below w.heap.size w (w.alloc (.cells #[.int .i64 b, .int .i64 wd, .int .i64 m, .int .i64 r, .int .i64 ce, .int .i64 lg, .int .i64 st] 23)) := (Below.refl _ _).alloc (Nat.le_refl _) _
  have HA := Lib.hid hA
  clear hA
  have HBL : Hid (∀ n e W, Calls Tryz.prog 188 #[.int .i64 n, .int .i64 e] W fun r w' => r = .returned (.bool (belowB n e)) ∧ w' = W) := Lib.hid below_any
  go_enter Tryz.func144, Tryz.ntmps144
  by_cases h1 : u = 1
  · subst h1
    cases hb : belowB n r with
    | false =>
      have e : faultE r ce 1 n = 5 := by simp [faultE, hb]
      rw [e]
      go_wp2_with (go_at_call 188; refine (HBL.out _ _ _).mono ?_; rw [hb]; rintro e w' ⟨rfl, rfl⟩)
      go_ret
      exact ⟨rfl, HA.out⟩
    | true =>
      have e : faultE r ce 1 n = 0 := by simp [faultE, hb]
      rw [e]
      go_wp2_with (go_at_call 188; refine (HBL.out _ _ _).mono ?_; rw [hb]; rintro e w' ⟨rfl, rfl⟩)
      go_ret
      exact ⟨rfl, HA.out⟩
  · by_cases h2 : u = 2
    · subst h2
      cases hb : belowB n ce with
      | false =>
        have e : faultE r ce 2 n = 9 := by simp [faultE, hb]
        rw [e]
        go_wp2_with (go_at_call 188; refine (HBL.out _ _ _).mono ?_; rw [hb]; rintro e w' ⟨rfl, rfl⟩)
        go_ret
        exact ⟨rfl, HA.out⟩
      | true =>
        have e : faultE r ce 2 n = 0 := by simp [faultE, hb]
        rw [e]
        go_wp2_with (go_at_call 188; refine (HBL.out _ _ _).mono ?_; rw [hb]; rintro e w' ⟨rfl, rfl⟩)
        go_ret
        exact ⟨rfl, HA.out⟩
    · by_cases h3 : u = 3
      · subst h3
        cases hb : belowB n 16 with
        | false =>
          have e : faultE r ce 3 n = 8 := by simp [faultE, hb]
          rw [e]
          go_wp2_with (go_at_call 188; refine (HBL.out _ _ _).mono ?_; rw [hb]; rintro e w' ⟨rfl, rfl⟩)
          go_ret
          exact ⟨rfl, HA.out⟩
        | true =>
          have e : faultE r ce 3 n = 0 := by simp [faultE, hb]
          rw [e]
          go_wp2_with (go_at_call 188; refine (HBL.out _ _ _).mono ?_; rw [hb]; rintro e w' ⟨rfl, rfl⟩)
          go_ret
          exact ⟨rfl, HA.out⟩
      · have e : faultE r ce u n = 0 := by simp [faultE, h1, h2, h3]
        rw [e]
        have q1 : ((u : Int) == 1) = false := by rw [beq_eq_false_iff_ne]; omega
        have q2 : ((u : Int) == 2) = false := by rw [beq_eq_false_iff_ne]; omega
        have q3 : ((u : Int) == 3) = false := by rw [beq_eq_false_iff_ne]; omega
        go_wp2_with fail
        go_ret
        exact ⟨rfl, HA.out⟩

theorem below_of_regrown {w w' : World} (h : ∃ p : Regrown, w' = Sort.grow (redrawn w p.d) p.os) : Below w.heap.size w w' := by
  obtain ⟨p, rfl⟩ := h
  exact below_regrown w p.d p.os
/-- Which fault comes first, from a place on. -/
def firstF (r ce : Int) (k : Nat) (f : Nat → Int) : Nat → Nat → Int
  | 0, _ => 0
  | n + 1, p => if faultE r ce (useK k p) (f p) = 0 then firstF r ce k f n (p + 1) else faultE r ce (useK k p) (f p)
/-- What Check tells. -/
def checkE (b wd m r ce lg st : Int) (k a x c : Int) : Int := if rightB b wd m r ce lg st = true ∧ isK k = true then firstF r ce k.toNat (numAt a x c) (usesK k.toNat) 0 else 1
theorem firstF_skip {r ce : Int} {k : Nat} {f : Nat → Int} {u : Nat} : ∀ p, p ≤ u → (∀ j, j < p → faultE r ce (useK k j) (f j) = 0) → firstF r ce k f u 0 = firstF r ce k f (u - p) p := by
  intro p
  induction p with
  | zero => intro _ _; rfl
  | succ p ih =>
    intro hp h
    rw [ih (by omega) (fun j hj => h j (by omega))]
    obtain ⟨q, hq⟩ : ∃ q, u - p = q + 1 := ⟨u - p - 1, by omega⟩
    rw [hq, show u - (p + 1) = q by omega]
    unfold firstF
    rw [if_pos (h p (by omega))]
    cases q <;> rfl

set_option maxRecDepth 200000 in
set_option maxHeartbeats 4000000 in
theorem check_any (b wd m r ce lg st : Int) (k a x c : Int) (w : World) (ht : FormTab w) (hm : LimTab w) :
    Calls Tryz.prog 111 #[.agg #[.int .i64 b, .int .i64 wd, .int .i64 m, .int .i64 r, .int .i64 ce, .int .i64 lg, .int .i64 st], .agg #[.int .i64 k, .int .i64 a, .int .i64 x, .int .i64 c]] w
      fun e w' => e = .returned (.int .i64 (checkE b wd m r ce lg st k a x c)) ∧ Below w.heap.size w w' := by
  have HT := Lib.hid ht
  have HM := Lib.hid hm
  clear ht hm
  have hA : Below w.heap.size w ((w.alloc (.cells #[.int .i64 b, .int .i64 wd, .int .i64 m, .int .i64 r, .int .i64 ce, .int .i64 lg, .int .i64 st] 23)).alloc (.cells #[.int .i64 k, .int .i64 a, .int .i64 x, .int .i64 c] 72)) := ((Below.refl _ _).alloc (Nat.le_refl _) _).alloc (by simp) _
  have HA := Lib.hid hA
  clear hA
  have HR := Lib.hid (right_any b wd m r ce lg st _ (HM.out.later HA.out))
  go_enter Tryz.func111, Tryz.ntmps111
  go_wp2_with (go_at_call 76; fail)
  refine HR.out.mono ?_
  rintro e w1 ⟨rfl, hb1⟩
  have HB1 : Hid (Below w.heap.size w w1) := Lib.hid (HA.out.trans (hb1.mono HA.out.size))
  have hc1 : ∀ j v, (#[Value.int .i64 b, .int .i64 wd, .int .i64 m, .int .i64 r, .int .i64 ce, .int .i64 lg, .int .i64 st] : Array Value)[j]? = some v → w1.cell? ⟨w.heap.size, j, none⟩ = some v := fun j v hv =>
    (hb1.cell (p := ⟨w.heap.size, j, none⟩) (by show w.heap.size < _; simp only [World.size_alloc]; omega)).trans (((Below.refl (w.heap.size + 1) (w.alloc (.cells #[.int .i64 b, .int .i64 wd, .int .i64 m, .int .i64 r, .int .i64 ce, .int .i64 lg, .int .i64 st] 23))).alloc (by simp) _).cell (p := ⟨w.heap.size, j, none⟩) (by show w.heap.size < w.heap.size + 1; omega) |>.trans (by rw [World.cell?_alloc_new]; exact hv))
  have ho1 : ∀ j v, (#[Value.int .i64 k, .int .i64 a, .int .i64 x, .int .i64 c] : Array Value)[j]? = some v → w1.cell? ⟨w.heap.size + 1, j, none⟩ = some v := fun j v hv =>
    (hb1.cell (p := ⟨w.heap.size + 1, j, none⟩) (by show w.heap.size + 1 < _; simp only [World.size_alloc]; omega)).trans (by
      rw [show w.heap.size + 1 = (w.alloc (.cells #[.int .i64 b, .int .i64 wd, .int .i64 m, .int .i64 r, .int .i64 ce, .int .i64 lg, .int .i64 st] 23)).heap.size by simp, World.cell?_alloc_new]; exact hv)
  have HC1 := Lib.hid hc1
  have HO1 := Lib.hid ho1
  clear hb1 hc1 ho1 HR
  have hk1 := HO1.out 0 _ rfl
  have hk2 := HO1.out 1 _ rfl
  have hk3 := HO1.out 2 _ rfl
  have hk4 := HO1.out 3 _ rfl
  cases hr : rightB b wd m r ce lg st with
  | false =>
    have e : checkE b wd m r ce lg st k a x c = 1 := by unfold checkE; rw [hr]; simp
    have HE := Lib.hid e
    clear e
    go_wp2_with fail
    go_ret
    exact ⟨by rw [HE.out]; rfl, HB1.out⟩
  | true =>
    cases hk : isK k with
    | false =>
      have e : checkE b wd m r ce lg st k a x c = 1 := by unfold checkE; rw [hk]; simp
      have HE := Lib.hid e
      clear e
      go_wp2_with (go_at_call 122; refine (is_any _ _).mono ?_; rw [hk]; rintro e w9 ⟨rfl, hw9⟩; obtain rfl : w1 = w9 := hw9.symm)
      go_ret
      exact ⟨by rw [HE.out]; rfl, HB1.out⟩
    | true =>
      have e : checkE b wd m r ce lg st k a x c = firstF r ce k.toNat (numAt a x c) (usesK k.toNat) 0 := by unfold checkE; rw [hr, hk]; simp
      obtain ⟨n, rfl, n1, n8⟩ := isK_nat hk
      have en : ((n : Int)).toNat = n := by simp
      rw [en] at e
      have HE := Lib.hid e
      clear e en
      have eu : usesI (n : Int) = usesK n := by unfold usesI; rw [hk]; rfl
      go_wp2_with (first
        | (go_at_call 122; refine (is_any _ _).mono ?_; rw [hk]; rintro e w9 ⟨rfl, hw9⟩; obtain rfl : w1 = w9 := hw9.symm)
        | (go_at_call 123; fail))
      refine (numbers_any n a x c _ (HT.out.later HB1.out)).mono ?_
      rintro e w2 ⟨N, hN, rfl, m0, m1, m2, hb2⟩
      rw [eu]
      have HB2 := Lib.hid (HB1.out.trans (hb2.mono HB1.out.size))
      have hu : usesK n ≤ 3 := by rcases uses_cases n with hu | hu | hu | hu <;> omega
      have HN : Hid (∀ W, Below w2.heap.size w2 W → ∀ p, p < 3 → W.cell? ⟨N, p, none⟩ = some (.int .i64 (numAt a x c p))) := Lib.hid (by
        intro W hW p hp
        refine (hW.cell (p := ⟨N, p, none⟩) (show N < w2.heap.size from lt_of_cell m0)).trans ?_
        have h3 : p = 0 ∨ p = 1 ∨ p = 2 := by omega
        rcases h3 with rfl | rfl | rfl <;> assumption)
      have HC2 : Hid (∀ W, Below w2.heap.size w2 W → ∀ j v, (#[Value.int .i64 b, .int .i64 wd, .int .i64 m, .int .i64 r, .int .i64 ce, .int .i64 lg, .int .i64 st] : Array Value)[j]? = some v → W.cell? ⟨w.heap.size, j, none⟩ = some v) := Lib.hid fun W hW j v hv => by
        have h1 := HC1.out j v hv
        have h2 : w.heap.size < w1.heap.size := lt_of_cell h1
        exact (hW.cell (p := ⟨w.heap.size, j, none⟩) (Nat.lt_of_lt_of_le h2 hb2.size)).trans ((hb2.cell (p := ⟨w.heap.size, j, none⟩) h2).trans h1)
      have HO2 : Hid (∀ W, Below w2.heap.size w2 W → W.cell? ⟨w.heap.size + 1, 0, none⟩ = some (.int .i64 n)) := Lib.hid fun W hW => by
        have h1 := HO1.out 0 _ rfl
        have h2 : w.heap.size + 1 < w1.heap.size := lt_of_cell h1
        exact (hW.cell (p := ⟨w.heap.size + 1, 0, none⟩) (Nat.lt_of_lt_of_le h2 hb2.size)).trans ((hb2.cell (p := ⟨w.heap.size + 1, 0, none⟩) h2).trans h1)
      clear hb2 m0 m1 m2 eu HC1 HO1 hk1 hk2 hk3 hk4
      generalize hU : usesK n = u at *
      clear hU
      go_wp2_with fail
      go_loopw [20] (fun i wr => ∃ p : Nat, p ≤ u ∧ i = .int .i64 p ∧ (∀ j, j < p → faultE r ce (useK n j) (numAt a x c j) = 0) ∧ Below w2.heap.size w2 wr) (fun i _ => 3 - (intOf i).toNat)
      case atStart => exact ⟨0, by omega, rfl, fun j hj => by omega, Below.refl _ _⟩
      case round =>
        obtain ⟨p, hp, rfl, hz, hb⟩ := hrel
        have HZ := Lib.hid hz
        have HB := Lib.hid hb
        clear hz hb
        have p0 : (0 : Int) ≤ (p : Int) := by omega
        by_cases hlt : p < u
        · have p3 : (p : Int) < 3 := by omega
          have pu : (p : Int) < (u : Int) := by omega
          have n0 : (0 : Int) ≤ (n : Int) := by omega
          have n9 : (n : Int) < 9 := by omega
          have hnp := HN.out wr HB.out p (by omega)
          have hnk := HO2.out wr HB.out
          have hfm := ((HT.out.later HB2.out).later HB.out).use n p (by omega) (by omega)
          have q0 := HC2.out wr HB.out 0 _ rfl
          have q1 := HC2.out wr HB.out 1 _ rfl
          have q2 := HC2.out wr HB.out 2 _ rfl
          have q3 := HC2.out wr HB.out 3 _ rfl
          have q4 := HC2.out wr HB.out 4 _ rfl
          have q5 := HC2.out wr HB.out 5 _ rfl
          have q6 := HC2.out wr HB.out 6 _ rfl
          have HFA : Hid (∀ W, Calls Tryz.prog 144 #[.agg #[.int .i64 b, .int .i64 wd, .int .i64 m, .int .i64 r, .int .i64 ce, .int .i64 lg, .int .i64 st], .int .i64 (useK n p), .int .i64 (numAt a x c p)] W fun e w' => e = .returned (.int .i64 (faultE r ce (useK n p) (numAt a x c p))) ∧ Below W.heap.size W w') := Lib.hid fun W => fault_any b wd m r ce lg st _ _ W
          go_wp2_with fail
          have d0 := cell_regrown q0
          have d1 := cell_regrown q1
          have d2 := cell_regrown q2
          have d3 := cell_regrown q3
          have d4 := cell_regrown q4
          have d5 := cell_regrown q5
          have d6 := cell_regrown q6
          have d7 := cell_regrown hnk
          have d8 := cell_regrown hfm
          refine wp_region_quiet_below (by kernel_rfl) (by kernel_rfl) ?_
          repeat (go_big_quiet_step ((go_at_call 144; exact Calls.regrown_of (HFA.out _))))
          refine wpQuiet_nil ?_
          intro W1 hw'
          have hb1 := below_of_regrown hw'
          have HBW := Lib.hid (HB.out.trans (hb1.mono HB.out.size))
          clear hw' hb1 d0 d1 d2 d3 d4 d5 d6 d7 d8
          by_cases hf : faultE r ce (useK n p) (numAt a x c p) = 0
          · have HF0 := Lib.hid hf
            have hq : (faultE r ce (useK n p) (numAt a x c p) != 0) = false := by rw [hf]; rfl
            clear hf
            generalize hv : faultE r ce (useK n p) (numAt a x c p) = v at hq ⊢
            have HV := Lib.hid hv
            clear hv
            go_wp2_with fail
            go_roundw
            case rel =>
              refine ⟨p + 1, by omega, by go_num, fun j hj => ?_, HBW.out⟩
              by_cases hj2 : j < p
              · exact HZ.out j hj2
              · obtain rfl : j = p := by omega
                exact HF0.out
            case measure => simp [intOf]; omega
          · have hq : (faultE r ce (useK n p) (numAt a x c p) != 0) = true := by rw [bne_iff_ne]; exact hf
            have HFN : Hid (firstF r ce n (numAt a x c) u 0 = faultE r ce (useK n p) (numAt a x c p)) := Lib.hid (by
              rw [firstF_skip p (by omega) HZ.out]
              obtain ⟨q, hq⟩ : ∃ q, u - p = q + 1 := ⟨u - p - 1, by omega⟩
              rw [hq]
              unfold firstF
              rw [if_neg hf])
            clear hf
            generalize faultE r ce (useK n p) (numAt a x c p) = v at hq HFN ⊢
            go_wp2_with fail
            go_ret
            exact ⟨by rw [HE.out, HFN.out]; rfl, HB2.out.trans (HBW.out.mono HB2.out.size)⟩
        · obtain rfl : p = u := by omega
          go_wp2
          go_ret
          exact ⟨by rw [HE.out, firstF_skip p (Nat.le_refl _) HZ.out, Nat.sub_self]; rfl, HB2.out.trans (HB.out.mono HB2.out.size)⟩

/-- The first one of several that is wrong: its place, and what is wrong. -/
def rightR (f : Nat → Int) : Nat → Nat → Int × Int
  | 0, _ => (0, 0)
  | n + 1, p => if f p = 0 then rightR f n (p + 1) else ((p : Int), f p)
/-- A row of operations as it lies. -/
def OpsAt (w : World) (p : Option Addr) (l : List (Int × Int × Int × Int)) : Prop := ∀ i, i < l.length → ∃ b off, p = some ⟨b, off, none⟩ ∧ w.cell? ⟨b, off + i * 4, none⟩ = some (.int .i64 (l.getD i (0, 0, 0, 0)).1) ∧
  w.cell? ⟨b, off + i * 4 + 1, none⟩ = some (.int .i64 (l.getD i (0, 0, 0, 0)).2.1) ∧ w.cell? ⟨b, off + i * 4 + 2, none⟩ = some (.int .i64 (l.getD i (0, 0, 0, 0)).2.2.1) ∧ w.cell? ⟨b, off + i * 4 + 3, none⟩ = some (.int .i64 (l.getD i (0, 0, 0, 0)).2.2.2)
theorem OpsAt.later {w w' : World} {p : Option Addr} {l : List (Int × Int × Int × Int)} (h : OpsAt w p l) (hb : Below w.heap.size w w') : OpsAt w' p l := fun i hi => by
  obtain ⟨b, off, e, c0, c1, c2, c3⟩ := h i hi
  exact ⟨b, off, e, (hb.cell (p := ⟨b, _, none⟩) (lt_of_cell c0)).trans c0, (hb.cell (p := ⟨b, _, none⟩) (lt_of_cell c1)).trans c1, (hb.cell (p := ⟨b, _, none⟩) (lt_of_cell c2)).trans c2, (hb.cell (p := ⟨b, _, none⟩) (lt_of_cell c3)).trans c3⟩

end Go.Proofs.YtipifkgmhgkleaaGreatDoor.Opr
