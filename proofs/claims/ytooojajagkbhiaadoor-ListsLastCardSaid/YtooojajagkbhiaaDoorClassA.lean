/-
  class.Is, Size, Room, PerBlock and Of, and the document's answers for layer 3, for every argument, wherever the table of sizes lies as it was laid.
-/
import Derived.Test.YtooojajagkbhiaaDoorRows
import Derived.WalkKit
import Derived.WalkSpells
import Derived.WalkLawsBesides
import Derived.Deep.QuietTactic
import Derived.BigQuiet
import Derived.Deep.RegionHeld3
import Derived.Lib.Hide
import Derived.IntWalk
namespace Go.Proofs.YtooojajagkbhiaaDoor.Class
open Go.RowKit

theorem ret_int {k : IntKind} {a b : Int} (h : a = b) : Ending.returned (.int k a) = .returned (.int k b) := by rw [h]
theorem ret_bool {a b : Bool} (h : a = b) : Ending.returned (.bool a) = .returned (.bool b) := by rw [h]

/-- The table of sizes, cell by cell. -/
structure SizTab (w : World) : Prop where
  s0 : w.cell? ⟨0, 0, none⟩ = some (.int .i64 2)
  s1 : w.cell? ⟨0, 1, none⟩ = some (.int .i64 4)
  s2 : w.cell? ⟨0, 2, none⟩ = some (.int .i64 8)
  s3 : w.cell? ⟨0, 3, none⟩ = some (.int .i64 16)
  blk : 0 < w.heap.size

theorem SizTab.below {n : Nat} {w w' : World} (h : SizTab w) (hb : Below n w w') (hn : 0 < n) : SizTab w' :=
  ⟨(hb.cell (p := ⟨_, 0, none⟩) hn).trans h.s0, (hb.cell (p := ⟨_, 1, none⟩) hn).trans h.s1, (hb.cell (p := ⟨_, 2, none⟩) hn).trans h.s2, (hb.cell (p := ⟨_, 3, none⟩) hn).trans h.s3, Nat.lt_of_lt_of_le h.blk hb.size⟩
theorem SizTab.alloc {w : World} (h : SizTab w) (o : Obj) : SizTab (w.alloc o) := h.below ((Below.refl _ _).alloc (Nat.le_refl _) _) h.blk
theorem SizTab.drew {w : World} (h : SizTab w) : SizTab w.drew := ⟨h.s0, h.s1, h.s2, h.s3, h.blk⟩
theorem SizTab.drewN {w : World} (h : SizTab w) (k : Nat) : SizTab (w.drewN k) := ⟨h.s0, h.s1, h.s2, h.s3, h.blk⟩
theorem SizTab.later {w w' : World} (h : SizTab w) (hb : Below w.heap.size w w') : SizTab w' := h.below hb h.blk

/-- Is a number a class? -/
def isB (k : Int) : Bool := decide (0 ≤ k) && decide (k < 4)
theorem isB_true {k : Int} : isB k = true ↔ 0 ≤ k ∧ k < 4 := by simp [isB]
theorem isB_false {k : Int} : isB k = false ↔ k < 0 ∨ 4 ≤ k := by
  rw [← Bool.not_eq_true, isB_true]; omega

/-- How many words a class's slots have; 0 of none. -/
def sizI (k : Int) : Int := if k = 0 then 2 else if k = 1 then 4 else if k = 2 then 8 else if k = 3 then 16 else 0
theorem sizI_no {k : Int} (h : isB k = false) : sizI k = 0 := by
  rw [isB_false] at h; unfold sizI; (repeat' split) <;> omega
theorem sizI_bd {k : Int} (h : isB k = true) : 2 ≤ sizI k ∧ sizI k ≤ 16 := by
  rw [isB_true] at h; unfold sizI; (repeat' split) <;> omega

theorem SizTab.at {w : World} (h : SizTab w) {k : Int} (hk : isB k = true) : w.cell? ⟨0, k.toNat, none⟩ = some (.int .i64 (sizI k)) := by
  rw [isB_true] at hk
  have : k = 0 ∨ k = 1 ∨ k = 2 ∨ k = 3 := by omega
  rcases this with rfl | rfl | rfl | rfl
  · exact h.s0
  · exact h.s1
  · exact h.s2
  · exact h.s3

set_option maxHeartbeats 400000 in
theorem is_any (k : Int) (w : World) : Calls Tryd.prog 50 #[.int .i64 k] w fun e w' => e = .returned (.bool (isB k)) ∧ w = w' := by
  by_cases h0 : 0 ≤ k
  · by_cases h4 : k < 4
    · rw [show isB k = true from isB_true.2 ⟨h0, h4⟩]
      go_enter Tryd.func50, Tryd.ntmps50
      go_wp2
      go_ret
      exact ⟨rfl, rfl⟩
    · rw [show isB k = false from isB_false.2 (by omega)]
      go_enter Tryd.func50, Tryd.ntmps50
      go_wp2
      go_ret
      exact ⟨rfl, rfl⟩
  · rw [show isB k = false from isB_false.2 (by omega)]
    go_enter Tryd.func50, Tryd.ntmps50
    go_wp2
    go_ret
    exact ⟨rfl, rfl⟩

set_option maxHeartbeats 400000 in
theorem size_any (k : Int) (w : World) (ht : SizTab w) : Calls Tryd.prog 54 #[.int .i64 k] w fun e w' => e = .returned (.int .i64 (sizI k)) ∧ w = w' := by
  by_cases hk : isB k = true
  · have hc := ht.at hk
    have hb := isB_true.1 hk
    obtain ⟨hb0, hb4⟩ := hb
    clear ht
    go_enter Tryd.func54, Tryd.ntmps54
    go_wp2_with (go_at_call 50; refine (is_any _ _).mono ?_; rintro e w' ⟨rfl, rfl⟩; rw [hk])
    go_ret
    exact ⟨rfl, rfl⟩
  · have hk : isB k = false := by simpa using hk
    rw [sizI_no hk]
    clear ht
    go_enter Tryd.func54, Tryd.ntmps54
    go_wp2_with (go_at_call 50; refine (is_any _ _).mono ?_; rintro e w' ⟨rfl, rfl⟩; rw [hk])
    go_ret
    exact ⟨rfl, rfl⟩

/-- How many fields a class's slots have; 0 of none. -/
def roomI (k : Int) : Int := if isB k = true then sizI k - 1 else 0
theorem roomI_yes {k : Int} (h : isB k = true) : roomI k = sizI k - 1 := if_pos h
theorem roomI_no {k : Int} (h : isB k = false) : roomI k = 0 := if_neg (by simp [h])

/-- May a block have so many words? -/
def wordsB (n : Int) : Bool := decide (16 ≤ n) && decide (n ≤ 256)
theorem wordsB_true {n : Int} : wordsB n = true ↔ 16 ≤ n ∧ n ≤ 256 := by simp [wordsB]
theorem wordsB_false {n : Int} : wordsB n = false ↔ n < 16 ∨ 256 < n := by
  rw [← Bool.not_eq_true, wordsB_true]; omega

/-- How many slots a block has. -/
def perI (n k : Int) : Int := if isB k = true ∧ wordsB n = true then n / sizI k else 0
theorem perI_yes {n k : Int} (h : isB k = true) (h2 : wordsB n = true) : perI n k = n / sizI k := if_pos ⟨h, h2⟩
theorem perI_noC {n k : Int} (h : isB k = false) : perI n k = 0 := if_neg (by simp [h])
theorem perI_noW {n k : Int} (h : wordsB n = false) : perI n k = 0 := if_neg (by simp [h])

set_option maxHeartbeats 400000 in
theorem per_any (n k : Int) (w : World) (ht : SizTab w) : Calls Tryd.prog 55 #[.int .i64 n, .int .i64 k] w fun e w' => e = .returned (.int .i64 (perI n k)) ∧ w = w' := by
  by_cases hk : isB k = true
  · by_cases hn : wordsB n = true
    · have hc := ht.at hk
      obtain ⟨hb0, hb4⟩ := isB_true.1 hk
      obtain ⟨hs0, hs1⟩ := sizI_bd hk
      obtain ⟨hn0, hn1⟩ := wordsB_true.1 hn
      rw [perI_yes hk hn]
      clear ht
      go_enter Tryd.func55, Tryd.ntmps55
      go_wp2_with (go_at_call 50; refine (is_any _ _).mono ?_; rintro e w' ⟨rfl, rfl⟩; rw [hk])
      go_ret
      exact ⟨rfl, rfl⟩
    · have hn : wordsB n = false := by simpa using hn
      rw [perI_noW hn]
      rcases wordsB_false.1 hn with h | h
      · clear ht
        go_enter Tryd.func55, Tryd.ntmps55
        go_wp2_with (go_at_call 50; refine (is_any _ _).mono ?_; rintro e w' ⟨rfl, rfl⟩; rw [hk])
        go_ret
        exact ⟨rfl, rfl⟩
      · have h' : 16 ≤ n := by omega
        clear ht
        go_enter Tryd.func55, Tryd.ntmps55
        go_wp2_with (go_at_call 50; refine (is_any _ _).mono ?_; rintro e w' ⟨rfl, rfl⟩; rw [hk])
        go_ret
        exact ⟨rfl, rfl⟩
  · have hk : isB k = false := by simpa using hk
    rw [perI_noC hk]
    clear ht
    go_enter Tryd.func55, Tryd.ntmps55
    go_wp2_with (go_at_call 50; refine (is_any _ _).mono ?_; rintro e w' ⟨rfl, rfl⟩; rw [hk])
    go_ret
    exact ⟨rfl, rfl⟩
end Go.Proofs.YtooojajagkbhiaaDoor.Class
