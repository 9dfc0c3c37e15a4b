/-
  A graph in memory: how it lies (record, rows of rows), Count, Cell, Reg.
-/
import Derived.Test.YtadkmidipjlcjaaDoorGrB
import Derived.BigQuiet
namespace Go.Proofs.YtadkmidipjlcjaaDoor.Gra
open Go.RowKit Go.Proofs.YtadkmidipjlcjaaDoor.Opr

/-- A row of numbers as it lies. -/
def RowAt (W : World) (p : Option Addr) (l : List Int) : Prop := ∀ i, i < l.length → ∃ b off, p = some ⟨b, off, none⟩ ∧ W.cell? ⟨b, off + i, none⟩ = some (.int .i64 (l.getD i 0))
theorem RowAt.later {W W' : World} {p : Option Addr} {l : List Int} (h : RowAt W p l) (hb : Below W.heap.size W W') : RowAt W' p l := fun i hi => by
  obtain ⟨b, off, e, c⟩ := h i hi
  exact ⟨b, off, e, (hb.cell (p := ⟨b, _, none⟩) (lt_of_cell c)).trans c⟩
/-- A row of rows as it lies. -/
def RowsAt (W : World) (p : Option Addr) (L : List (List Int)) : Prop := ∀ i, i < L.length → ∃ b off q c, p = some ⟨b, off, none⟩ ∧ W.cell? ⟨b, off + i, none⟩ = some (.slice q (L.getD i []).length c) ∧ RowAt W q (L.getD i [])
theorem RowsAt.later {W W' : World} {p : Option Addr} {L : List (List Int)} (h : RowsAt W p L) (hb : Below W.heap.size W W') : RowsAt W' p L := fun i hi => by
  obtain ⟨b, off, q, c, e, h1, h2⟩ := h i hi
  exact ⟨b, off, q, c, e, (hb.cell (p := ⟨b, _, none⟩) (lt_of_cell h1)).trans h1, h2.later hb⟩

theorem count_any (g : Nat) (p : Option Addr) (n c : Nat) (W : World) (h : W.cell? ⟨g, 7, none⟩ = some (.slice p n c)) :
    Calls Tryd.prog 14 #[.pointer (some ⟨g, 0, none⟩)] W fun e w' => e = .returned (.int .i64 n) ∧ w' = W := by
  go_enter Tryd.func14, Tryd.ntmps14
  go_wp2_with fail
  go_ret
  exact ⟨rfl, rfl⟩
/-- What a row has at a number; elsewhere 0. -/
def atI (l : List Int) (i : Int) : Int := if 0 ≤ i ∧ i < l.length then l.getD i.toNat 0 else 0
theorem has_yes {n i : Nat} (h : i < n) : (decide ((0 : Int) ≤ (i : Int)) && decide ((i : Int) < (n : Int))) = true := by simp [h]
theorem has_no {n : Nat} {i : Int} (h : ¬ (0 ≤ i ∧ i < n)) : (decide (0 ≤ i) && decide (i < (n : Int))) = false := by
  rw [Bool.and_eq_false_iff, decide_eq_false_iff_not, decide_eq_false_iff_not]
  omega

set_option maxRecDepth 100000 in
set_option maxHeartbeats 2000000 in
theorem cell_any (g : Nat) (p : Option Addr) (c : Nat) (l : List Int) (i : Int) (W : World) (h : W.cell? ⟨g, 9, none⟩ = some (.slice p l.length c)) (hr : RowAt W p l) :
    Calls Tryd.prog 22 #[.pointer (some ⟨g, 0, none⟩), .int .i64 i] W fun e w' => e = .returned (.int .i64 (atI l i)) ∧ w' = W := by
  by_cases hi : 0 ≤ i ∧ i < l.length
  · obtain ⟨n, rfl⟩ : ∃ n : Nat, i = n := ⟨i.toNat, by omega⟩
    have hn : n < l.length := by omega
    obtain ⟨b, off, rfl, c0⟩ := hr n hn
    have e : atI l n = l.getD n 0 := by unfold atI; rw [if_pos hi]; simp
    rw [e]
    have hy := Lib.hid (has_any (some ⟨b, off, none⟩) l.length c n W)
    rw [has_yes hn] at hy
    have n0 : (0 : Int) ≤ (n : Int) := by omega
    have n1 : (n : Int) < (l.length : Int) := by omega
    generalize l.getD n 0 = v at c0 ⊢
    generalize l.length = m at *
    go_enter Tryd.func22, Tryd.ntmps22
    go_wp2_with (go_at_call 39; refine hy.out.mono ?_; rintro e w9 ⟨rfl, hw9⟩; obtain rfl : W = w9 := hw9.symm)
    go_ret
    exact ⟨rfl, rfl⟩
  · have e : atI l i = 0 := by unfold atI; rw [if_neg hi]
    rw [e]
    have hy := Lib.hid (has_any p l.length c i W)
    rw [has_no hi] at hy
    go_enter Tryd.func22, Tryd.ntmps22
    go_wp2_with (go_at_call 39; refine hy.out.mono ?_; rintro e w9 ⟨rfl, hw9⟩; obtain rfl : W = w9 := hw9.symm)
    go_ret
    exact ⟨rfl, rfl⟩

set_option maxRecDepth 100000 in
set_option maxHeartbeats 2000000 in
theorem reg_any (g : Nat) (p : Option Addr) (c : Nat) (L : List (List Int)) (m r : Int) (W : World) (h : W.cell? ⟨g, 8, none⟩ = some (.slice p L.length c)) (hr : RowsAt W p L) :
    Calls Tryd.prog 20 #[.pointer (some ⟨g, 0, none⟩), .int .i64 m, .int .i64 r] W fun e w' => e = .returned (.int .i64 (if 0 ≤ m ∧ m < L.length then atI (L.getD m.toNat []) r else 0)) ∧ w' = W := by
  by_cases hi : 0 ≤ m ∧ m < L.length
  · rw [if_pos hi]
    obtain ⟨n, rfl⟩ : ∃ n : Nat, m = n := ⟨m.toNat, by omega⟩
    have hn : n < L.length := by omega
    obtain ⟨b, off, q, c2, rfl, c0, hq⟩ := hr n hn
    have en : ((n : Int)).toNat = n := by simp
    rw [en]
    have hy := Lib.hid (hasRows_any (some ⟨b, off, none⟩) L.length c n W)
    rw [has_yes hn] at hy
    have n0 : (0 : Int) ≤ (n : Int) := by omega
    have n1 : (n : Int) < (L.length : Int) := by omega
    generalize L.getD n [] = l at c0 hq ⊢
    generalize L.length = k at *
    by_cases hj : 0 ≤ r ∧ r < l.length
    · obtain ⟨j, rfl⟩ : ∃ j : Nat, r = j := ⟨r.toNat, by omega⟩
      have hjl : j < l.length := by omega
      obtain ⟨b2, off2, rfl, c1⟩ := hq j hjl
      have e : atI l j = l.getD j 0 := by unfold atI; rw [if_pos hj]; simp
      rw [e]
      have hz := Lib.hid (has_any (some ⟨b2, off2, none⟩) l.length c2 j W)
      rw [has_yes hjl] at hz
      have j0 : (0 : Int) ≤ (j : Int) := by omega
      have j1 : (j : Int) < (l.length : Int) := by omega
      generalize l.getD j 0 = v at c1 ⊢
      generalize l.length = u at *
      go_enter Tryd.func20, Tryd.ntmps20
      go_wp2_with (first
        | (go_at_call 29; refine hy.out.mono ?_; rintro e w9 ⟨rfl, hw9⟩; obtain rfl : W = w9 := hw9.symm)
        | (go_at_call 39; refine hz.out.mono ?_; rintro e w9 ⟨rfl, hw9⟩; obtain rfl : W = w9 := hw9.symm))
      go_ret
      exact ⟨rfl, rfl⟩
    · have e : atI l r = 0 := by unfold atI; rw [if_neg hj]
      rw [e]
      have hz := Lib.hid (has_any q l.length c2 r W)
      rw [has_no hj] at hz
      go_enter Tryd.func20, Tryd.ntmps20
      go_wp2_with (first
        | (go_at_call 29; refine hy.out.mono ?_; rintro e w9 ⟨rfl, hw9⟩; obtain rfl : W = w9 := hw9.symm)
        | (go_at_call 39; refine hz.out.mono ?_; rintro e w9 ⟨rfl, hw9⟩; obtain rfl : W = w9 := hw9.symm))
      go_ret
      exact ⟨rfl, rfl⟩
  · rw [if_neg hi]
    have hy := Lib.hid (hasRows_any p L.length c m W)
    rw [has_no hi] at hy
    go_enter Tryd.func20, Tryd.ntmps20
    go_wp2_with (go_at_call 29; refine hy.out.mono ?_; rintro e w9 ⟨rfl, hw9⟩; obtain rfl : W = w9 := hw9.symm)
    go_ret
    exact ⟨rfl, rfl⟩
end Go.Proofs.YtadkmidipjlcjaaDoor.Gra
