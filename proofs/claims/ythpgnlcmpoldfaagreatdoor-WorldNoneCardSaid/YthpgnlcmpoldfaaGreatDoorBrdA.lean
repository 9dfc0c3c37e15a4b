/-
  A board in memory; New, Count, has, Pending, Answered, Answer, of every board that there is, and of none.
-/
import Derived.Test.YthpgnlcmpoldfaaGreatDoorRow
namespace Go.Proofs.YthpgnlcmpoldfaaGreatDoor.Brd
open Go.RowKit
open Go.Proofs.YthpgnlcmpoldfaaGreatDoor.Row

/-- A board in memory: how many mutators, the kind, the count, who owes. -/
structure BdIs (w : World) (B base n : Nat) (kind count : Int) (ow : Nat → Bool) : Prop where
  n1 : 1 ≤ n
  n2 : n ≤ 8
  c0 : w.cell? ⟨B, 0, none⟩ = some (.int .i64 n)
  c1 : w.cell? ⟨B, 1, none⟩ = some (.int .i64 kind)
  c2 : w.cell? ⟨B, 2, none⟩ = some (.int .i64 count)
  cs : ∀ m, m < 8 → w.cell? ⟨B, 3 + m, none⟩ = some (.bool (ow m))
  f : ∀ o, o < 11 → w.frozen? ⟨B, o, none⟩ = false
  base : base ≤ B
theorem BdIs.ltB {w : World} {B base n : Nat} {kind count : Int} {ow : Nat → Bool} (h : BdIs w B base n kind count ow) : B < w.heap.size := World.block_lt_of_cell? w _ h.c0
theorem BdIs.kept {w w' : World} {B base n : Nat} {kind count : Int} {ow : Nat → Bool} (h : BdIs w B base n kind count ow) (hB : w'.heap[B]? = w.heap[B]?) : BdIs w' B base n kind count ow :=
  ⟨h.n1, h.n2, (cell_of_block (a := ⟨B, 0, none⟩) hB).trans h.c0, (cell_of_block (a := ⟨B, 1, none⟩) hB).trans h.c1, (cell_of_block (a := ⟨B, 2, none⟩) hB).trans h.c2,
    fun m hm => (cell_of_block (a := ⟨B, 3 + m, none⟩) hB).trans (h.cs m hm), fun o ho => (frozen_of_block (a := ⟨B, o, none⟩) hB).trans (h.f o ho), h.base⟩
theorem BdIs.later {w w' : World} {B base n : Nat} {kind count : Int} {ow : Nat → Bool} (h : BdIs w B base n kind count ow) (hb : Below w.heap.size w w') : BdIs w' B base n kind count ow := h.kept (hb.block _ h.ltB)
theorem BdIs.chg {S : Nat → Prop} {w w' : World} {B base n : Nat} {kind count : Int} {ow : Nat → Bool} (h : BdIs w B base n kind count ow) (hc : Chg S w w') (hB : ¬ S B) : BdIs w' B base n kind count ow := h.kept (hc.block B h.ltB hB)
theorem BdIs.drewN {w : World} {B base n : Nat} {kind count : Int} {ow : Nat → Bool} (h : BdIs w B base n kind count ow) (k : Nat) : BdIs (w.drewN k) B base n kind count ow := h.kept rfl
/-- Who owes, with one of them turned. -/
def upd (ow : Nat → Bool) (m : Nat) (b : Bool) : Nat → Bool := fun k => if k = m then b else ow k
theorem BdIs.turn {w : World} {B base n : Nat} {kind count : Int} {ow : Nat → Bool} (h : BdIs w B base n kind count ow) {m : Nat} (hm : m < 8) (b : Bool) : BdIs (w.setCell ⟨B, 3 + m, none⟩ (.bool b)) B base n kind count (upd ow m b) :=
  ⟨h.n1, h.n2, (other (by first | (simp; done) | (simp; omega))).trans h.c0, (other (by first | (simp; done) | (simp; omega))).trans h.c1, (other (by first | (simp; done) | (simp; omega))).trans h.c2,
    fun k hk => by
      unfold upd
      by_cases e : k = m
      · subst e; rw [if_pos rfl]; exact same (h.cs k hk)
      · rw [if_neg e]; exact (other (by first | (simp; done) | (simp; omega))).trans (h.cs k hk),
    fun o ho => (World.frozen?_setCell ..).trans (h.f o ho), h.base⟩
theorem BdIs.asked {w : World} {B base n : Nat} {kind count : Int} {ow : Nat → Bool} (h : BdIs w B base n kind count ow) (kind' count' : Int) : BdIs ((w.setCell ⟨B, 1, none⟩ (.int .i64 kind')).setCell ⟨B, 2, none⟩ (.int .i64 count')) B base n kind' count' ow :=
  ⟨h.n1, h.n2, (other (by simp)).trans ((other (by simp)).trans h.c0), (other (by simp)).trans (same h.c1), same ((other (by simp)).trans h.c2),
    fun m hm => (other (by first | (simp; done) | (simp; omega))).trans ((other (by first | (simp; done) | (simp; omega))).trans (h.cs m hm)), fun o ho => (World.frozen?_setCell ..).trans ((World.frozen?_setCell ..).trans (h.f o ho)), h.base⟩

theorem new_bad (n : Int) (w : World) (h : n < 1 ∨ 8 < n) : Calls Tryz.prog 52 #[.int .i64 n] w fun e w' => e = .returned (.tuple #[.pointer none, .int .i64 4]) ∧ w = w' := by
  rcases h with h | h
  · go_enter Tryz.func52, Tryz.ntmps52
    go_wp2
    go_ret2
    exact ⟨rfl, rfl⟩
  · have h1 : ¬ n < 1 := by omega
    go_enter Tryz.func52, Tryz.ntmps52
    go_wp2
    go_ret2
    exact ⟨rfl, rfl⟩
theorem new_good (n : Nat) (z : Int) (hz : z = n) (w : World) (h : 1 ≤ n) (h2 : n ≤ 8) : Calls Tryz.prog 52 #[.int .i64 z] w fun e w' => e = .returned (.tuple #[.pointer (some ⟨w.heap.size, 0, none⟩), .int .i64 0]) ∧
    BdIs w' w.heap.size w.heap.size n 0 0 (fun _ => false) ∧ Below w.heap.size w w' ∧ w'.heap.size = w.heap.size + 1 := by
  subst hz
  have h3 : ¬ (n : Int) < 1 := by omega
  have h4 : ¬ (8 < (n : Int)) := by omega
  go_enter Tryz.func52, Tryz.ntmps52
  go_wp2
  go_ret2
  refine ⟨rfl, ⟨h, h2, by simp, by simp, by simp, fun m hm => ?_, fun o ho => by simp, Nat.le_refl _⟩, (Below.refl _ _).alloc (Nat.le_refl _) _, by simp⟩
  match m, hm with
  | 0, _ => simp
  | 1, _ => simp
  | 2, _ => simp
  | 3, _ => simp
  | 4, _ => simp
  | 5, _ => simp
  | 6, _ => simp
  | 7, _ => simp

/-- Whether there is such a mutator. -/
def inB (n : Nat) (m : Int) : Bool := decide (0 ≤ m ∧ m < n)
theorem has_nil (m : Int) (w : World) : Calls Tryz.prog 108 #[.pointer none, .int .i64 m] w fun e w' => e = .returned (.bool false) ∧ w = w' := by
  go_enter Tryz.func108, Tryz.ntmps108
  go_wp2
  go_ret
  exact ⟨rfl, rfl⟩
theorem has_no {B base n : Nat} {kind count : Int} {ow : Nat → Bool} (m : Int) (w : World) (h : BdIs w B base n kind count ow) (hm : m < 0 ∨ (n : Int) ≤ m) : Calls Tryz.prog 108 #[.pointer (some ⟨B, 0, none⟩), .int .i64 m] w fun e w' => e = .returned (.bool false) ∧ w = w' := by
  have hc := h.c0
  clear h
  by_cases h0 : m < 0
  · have h1 : ¬ 0 ≤ m := by omega
    clear hm
    go_enter Tryz.func108, Tryz.ntmps108
    go_wp2
    go_ret
    exact ⟨rfl, rfl⟩
  · have h1 : 0 ≤ m := by omega
    have h2 : ¬ m < (n : Int) := by omega
    clear hm
    go_enter Tryz.func108, Tryz.ntmps108
    go_wp2
    go_ret
    exact ⟨rfl, rfl⟩
theorem has_yes {B base n : Nat} {kind count : Int} {ow : Nat → Bool} (m : Nat) (w : World) (h : BdIs w B base n kind count ow) (hm : m < n) : Calls Tryz.prog 108 #[.pointer (some ⟨B, 0, none⟩), .int .i64 m] w fun e w' => e = .returned (.bool true) ∧ w = w' := by
  have hc := h.c0
  clear h
  have h1 : (0 : Int) ≤ (m : Int) := by omega
  have h2 : (m : Int) < (n : Int) := by omega
  go_enter Tryz.func108, Tryz.ntmps108
  go_wp2
  go_ret
  exact ⟨rfl, rfl⟩

theorem pend_nil (m : Int) (w : World) : Calls Tryz.prog 86 #[.pointer none, .int .i64 m] w fun e w' => e = .returned (.tuple #[.int .i64 0, .bool false]) ∧ w = w' := by
  go_enter Tryz.func86, Tryz.ntmps86
  go_wp2_with (go_at_call 108; refine (has_nil _ _).mono ?_; rintro e w' ⟨rfl, rfl⟩)
  go_ret2
  exact ⟨rfl, rfl⟩
theorem pend_no {B base n : Nat} {kind count : Int} {ow : Nat → Bool} (m : Int) (w : World) (h : BdIs w B base n kind count ow) (hm : m < 0 ∨ (n : Int) ≤ m) : Calls Tryz.prog 86 #[.pointer (some ⟨B, 0, none⟩), .int .i64 m] w fun e w' => e = .returned (.tuple #[.int .i64 0, .bool false]) ∧ w = w' := by
  have H := Lib.hid h
  have HM := Lib.hid hm
  clear h hm
  go_enter Tryz.func86, Tryz.ntmps86
  go_wp2_with (go_at_call 108; refine (has_no _ _ H.out HM.out).mono ?_; rintro e w' ⟨rfl, rfl⟩)
  go_ret2
  exact ⟨rfl, rfl⟩
theorem pend_shut {B base n : Nat} {kind count : Int} {ow : Nat → Bool} (m : Nat) (w : World) (h : BdIs w B base n kind count ow) (hm : m < n) (ho : ow m = false) : Calls Tryz.prog 86 #[.pointer (some ⟨B, 0, none⟩), .int .i64 m] w fun e w' => e = .returned (.tuple #[.int .i64 0, .bool false]) ∧ w = w' := by
  have hn := h.n2
  have hc := h.cs m (by omega)
  rw [ho] at hc
  have h8 : (m : Int) < 8 := by omega
  have h0 : (0 : Int) ≤ (m : Int) := by omega
  have H := Lib.hid h
  clear h ho
  go_enter Tryz.func86, Tryz.ntmps86
  go_wp2_with (go_at_call 108; refine (has_yes _ _ H.out hm).mono ?_; rintro e w' ⟨rfl, rfl⟩)
  go_ret2
  exact ⟨rfl, rfl⟩
theorem pend_open {B base n : Nat} {kind count : Int} {ow : Nat → Bool} (m : Nat) (w : World) (h : BdIs w B base n kind count ow) (hm : m < n) (ho : ow m = true) : Calls Tryz.prog 86 #[.pointer (some ⟨B, 0, none⟩), .int .i64 m] w fun e w' => e = .returned (.tuple #[.int .i64 kind, .bool true]) ∧ w = w' := by
  have hn := h.n2
  have hc := h.cs m (by omega)
  rw [ho] at hc
  have h8 : (m : Int) < 8 := by omega
  have h0 : (0 : Int) ≤ (m : Int) := by omega
  have c1 := h.c1
  have H := Lib.hid h
  clear h ho
  go_enter Tryz.func86, Tryz.ntmps86
  go_wp2_with (go_at_call 108; refine (has_yes _ _ H.out hm).mono ?_; rintro e w' ⟨rfl, rfl⟩)
  go_ret2
  exact ⟨rfl, rfl⟩

theorem answered_nil (m : Int) (w : World) : Calls Tryz.prog 176 #[.pointer none, .int .i64 m] w fun e w' => e = .returned (.bool false) ∧ w = w' := by
  go_enter Tryz.func176, Tryz.ntmps176
  go_wp2_with (go_at_call 108; refine (has_nil _ _).mono ?_; rintro e w' ⟨rfl, rfl⟩)
  go_ret
  exact ⟨rfl, rfl⟩
theorem answered_no {B base n : Nat} {kind count : Int} {ow : Nat → Bool} (m : Int) (w : World) (h : BdIs w B base n kind count ow) (hm : m < 0 ∨ (n : Int) ≤ m) : Calls Tryz.prog 176 #[.pointer (some ⟨B, 0, none⟩), .int .i64 m] w fun e w' => e = .returned (.bool false) ∧ w = w' := by
  have H := Lib.hid h
  have HM := Lib.hid hm
  clear h hm
  go_enter Tryz.func176, Tryz.ntmps176
  go_wp2_with (go_at_call 108; refine (has_no _ _ H.out HM.out).mono ?_; rintro e w' ⟨rfl, rfl⟩)
  go_ret
  exact ⟨rfl, rfl⟩
theorem answered_yes {B base n : Nat} {kind count : Int} {ow : Nat → Bool} (m : Nat) (b : Bool) (w : World) (h : BdIs w B base n kind count ow) (hm : m < n) (ho : ow m = b) : Calls Tryz.prog 176 #[.pointer (some ⟨B, 0, none⟩), .int .i64 m] w fun e w' => e = .returned (.bool (!b)) ∧ w = w' := by
  have hn := h.n2
  have hc := h.cs m (by omega)
  rw [ho] at hc
  have h8 : (m : Int) < 8 := by omega
  have h0 : (0 : Int) ≤ (m : Int) := by omega
  have H := Lib.hid h
  clear h ho
  cases b
  all_goals
    go_enter Tryz.func176, Tryz.ntmps176
    go_wp2_with (go_at_call 108; refine (has_yes _ _ H.out hm).mono ?_; rintro e w' ⟨rfl, rfl⟩)
    go_ret
    exact ⟨rfl, rfl⟩

theorem ans_nil (m : Int) (w : World) : Calls Tryz.prog 187 #[.pointer none, .int .i64 m] w fun e w' => e = .returned (.int .i64 11) ∧ w = w' := by
  go_enter Tryz.func187, Tryz.ntmps187
  go_wp2
  go_ret
  exact ⟨rfl, rfl⟩
theorem ans_no {B base n : Nat} {kind count : Int} {ow : Nat → Bool} (m : Int) (w : World) (h : BdIs w B base n kind count ow) (hm : m < 0 ∨ (n : Int) ≤ m) : Calls Tryz.prog 187 #[.pointer (some ⟨B, 0, none⟩), .int .i64 m] w fun e w' => e = .returned (.int .i64 4) ∧ w = w' := by
  have H := Lib.hid h
  have HM := Lib.hid hm
  clear h hm
  go_enter Tryz.func187, Tryz.ntmps187
  go_wp2_with (go_at_call 108; refine (has_no _ _ H.out HM.out).mono ?_; rintro e w' ⟨rfl, rfl⟩)
  go_ret
  exact ⟨rfl, rfl⟩
theorem ans_shut {B base n : Nat} {kind count : Int} {ow : Nat → Bool} (m : Nat) (w : World) (h : BdIs w B base n kind count ow) (hm : m < n) (ho : ow m = false) : Calls Tryz.prog 187 #[.pointer (some ⟨B, 0, none⟩), .int .i64 m] w fun e w' => e = .returned (.int .i64 11) ∧ w = w' := by
  have hn := h.n2
  have hc := h.cs m (by omega)
  rw [ho] at hc
  have h8 : (m : Int) < 8 := by omega
  have h0 : (0 : Int) ≤ (m : Int) := by omega
  have H := Lib.hid h
  clear h ho
  go_enter Tryz.func187, Tryz.ntmps187
  go_wp2_with (go_at_call 108; refine (has_yes _ _ H.out hm).mono ?_; rintro e w' ⟨rfl, rfl⟩)
  go_ret
  exact ⟨rfl, rfl⟩
theorem ans_open {B base n : Nat} {kind count : Int} {ow : Nat → Bool} (m : Nat) (w : World) (h : BdIs w B base n kind count ow) (hm : m < n) (ho : ow m = true) : Calls Tryz.prog 187 #[.pointer (some ⟨B, 0, none⟩), .int .i64 m] w fun e w' => e = .returned (.int .i64 0) ∧
    BdIs w' B base n kind count (upd ow m false) ∧ Chg (fun k => k = B) w w' := by
  have hn := h.n2
  have hc := h.cs m (by omega)
  rw [ho] at hc
  have hf := h.f (3 + m) (by omega)
  have h8 : (m : Int) < 8 := by omega
  have h0 : (0 : Int) ≤ (m : Int) := by omega
  have H := Lib.hid h
  clear h ho
  go_enter Tryz.func187, Tryz.ntmps187
  go_wp2_with (go_at_call 108; refine (has_yes _ _ H.out hm).mono ?_; rintro e w' ⟨rfl, rfl⟩)
  go_ret
  exact ⟨rfl, H.out.turn (by omega) false, Chg.set (S := fun k => k = B) (Chg.refl _ _) (.inl rfl) _⟩
end Go.Proofs.YthpgnlcmpoldfaaGreatDoor.Brd
