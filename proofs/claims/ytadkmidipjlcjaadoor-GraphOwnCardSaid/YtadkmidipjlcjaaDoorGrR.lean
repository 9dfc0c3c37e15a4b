/-
  What is told of a graph: registers, cells, how many objects, fields.
-/
import Derived.Test.YtadkmidipjlcjaaDoorGrN
namespace Go.Proofs.YtadkmidipjlcjaaDoor.Gra
open Go.RowKit Go.Proofs.YtadkmidipjlcjaaDoor.Opr
open Go.Proofs.YtadkmidipjlcjaaDoor.Row (rowB rowB_none Chg owns_chg owns_cell cellsZ cellsZ_length cellsZ_at Rd clone_any)

theorem RowAt.of_owns {W : World} {p : Option Addr} {cap : Nat} {l : List Int} (h : W.ownsRow 0 3 1 (.slice p l.length cap) l.length (cellsZ l)) : RowAt W p l := fun i hi => by
  obtain ⟨Q, rfl⟩ := owns_form h (by omega)
  exact ⟨Q, 0, rfl, by rw [Nat.zero_add]; exact owns_cell h i _ (cellsZ_at l hi)⟩
/-- A mutator's register, whatever the numbers. -/
def rgI (s : GSt) (m q : Int) : Int := if 0 ≤ m ∧ m < s.nR then atI (s.E (4 + 2 * m.toNat)) q else 0
theorem reg_is {c : C7} {W : World} {G : Nat} {P : Nat → Option Addr} {K : Nat → Nat} {s : GSt} (h : GIs c W G P K s) (m q : Int) :
    Calls Tryd.prog 20 #[.pointer (some ⟨G, 0, none⟩), .int .i64 m, .int .i64 q] W fun e w' => e = .returned (.int .i64 (rgI s m q)) ∧ w' = W := by
  have hr := h.r
  have hl : ((List.range s.nR).map fun i => s.E (4 + 2 * i)).length = s.nR := by simp
  rw [← hl] at hr
  have hR : RowsAt W (P 1) ((List.range s.nR).map fun i => s.E (4 + 2 * i)) := fun i hi => by
    rw [hl] at hi
    obtain ⟨R, h1, h2⟩ := h.rowR hi
    have hg : ((List.range s.nR).map fun i => s.E (4 + 2 * i)).getD i [] = s.E (4 + 2 * i) := by
      simp [List.getD_eq_getElem?_getD, hi]
    rw [hg]
    exact ⟨R, 0, _, _, h1, by rw [Nat.zero_add]; exact h2, RowAt.of_owns (h.e _ (V_reg hi))⟩
  refine (reg_any G (P 1) (K 1) _ m q W hr hR).mono ?_
  rintro e w' ⟨rfl, rfl⟩
  refine ⟨?_, rfl⟩
  rw [hl]
  unfold rgI
  by_cases hm : 0 ≤ m ∧ m < s.nR
  · rw [if_pos hm, if_pos hm]
    have hg : ((List.range s.nR).map fun i => s.E (4 + 2 * i)).getD m.toNat [] = s.E (4 + 2 * m.toNat) := by
      have : m.toNat < s.nR := by omega
      simp [List.getD_eq_getElem?_getD, this]
    rw [hg]
  · rw [if_neg hm, if_neg hm]
theorem cell_is {c : C7} {W : World} {G : Nat} {P : Nat → Option Addr} {K : Nat → Nat} {s : GSt} (h : GIs c W G P K s) (i : Int) :
    Calls Tryd.prog 22 #[.pointer (some ⟨G, 0, none⟩), .int .i64 i] W fun e w' => e = .returned (.int .i64 (atI (s.E 2) i)) ∧ w' = W :=
  cell_any G (P 2) (K 2) (s.E 2) i W h.c (RowAt.of_owns (h.e 2 (V_cells s)))
theorem count_is {c : C7} {W : World} {G : Nat} {P : Nat → Option Addr} {K : Nat → Nat} {s : GSt} (h : GIs c W G P K s) :
    Calls Tryd.prog 14 #[.pointer (some ⟨G, 0, none⟩)] W fun e w' => e = .returned (.int .i64 s.nO) ∧ w' = W := count_any G _ _ _ W h.o

/-- A new row that has these numbers. -/
def NewR (W : World) (l : List Int) (e : Ending) (w' : World) : Prop := ∃ p' cap', e = .returned (.slice p' l.length cap') ∧ w'.ownsRow W.heap.size 3 1 (.slice p' l.length cap') l.length (cellsZ l) ∧ Below W.heap.size W w'
/-- An object's fields, whatever the number. -/
def fdI (s : GSt) (id : Int) : List Int := if 1 ≤ id ∧ id ≤ s.nO then s.E (3 + 2 * (id - 1).toNat) else []
theorem owns_cap0 {w : World} {base cap n : Nat} {e : TypeId} {p : Option Addr} {xs : List Value} (h : w.ownsRow base e 1 (.slice p n cap) n xs) : p = none → cap = 0 := by
  rintro rfl
  obtain ⟨_, ⟨h2, _⟩ | ⟨g', c, cur, e1, _⟩⟩ := h
  · cases h2; rfl
  · cases e1
set_option maxRecDepth 100000 in
set_option maxHeartbeats 2000000 in
theorem fields_is {c : C7} {W : World} {G : Nat} {P : Nat → Option Addr} {K : Nat → Nat} {s : GSt} (h : GIs c W G P K s) (hN : s.nO ≤ 1000000) (hL : ∀ i, i < s.nO → (s.E (3 + 2 * i)).length ≤ 15) (id : Int) :
    Calls Tryd.prog 23 #[.pointer (some ⟨G, 0, none⟩), .int .i64 id] W (NewR W (fdI s id)) := by
  have HC := Lib.hid (count_is h)
  by_cases h1 : id < 1
  · have e : fdI s id = [] := by unfold fdI; rw [if_neg (by omega)]
    rw [e]
    have hd : decide (id < 1) = true := decide_eq_true h1
    go_enter Tryd.func23, Tryd.ntmps23
    go_wp2_with fail
    go_ret
    exact ⟨none, 0, rfl, ⟨rfl, .inl ⟨rfl, rfl⟩⟩, Below.refl _ _⟩
  · have h0 : (0 : Int) < id := by omega
    by_cases h2 : (s.nO : Int) < id
    · have e : fdI s id = [] := by unfold fdI; rw [if_neg (by omega)]
      rw [e]
      clear h hL hN
      generalize s.nO = n at *
      go_enter Tryd.func23, Tryd.ntmps23
      go_wp2_with (go_at_call 14; refine HC.out.mono ?_; rintro e w9 ⟨rfl, hw9⟩; obtain rfl : W = w9 := hw9.symm)
      go_ret
      exact ⟨none, 0, rfl, ⟨rfl, .inl ⟨rfl, rfl⟩⟩, Below.refl _ _⟩
    · have hi : (id - 1).toNat < s.nO := by omega
      have e : fdI s id = s.E (3 + 2 * (id - 1).toNat) := by unfold fdI; rw [if_pos (by omega)]
      rw [e]
      obtain ⟨i, hid⟩ : ∃ i : Nat, (id - 1).toNat = i := ⟨_, rfl⟩
      rw [hid] at hi ⊢
      obtain ⟨R, e1, g1⟩ := h.rowO hi
      have g7 := h.o
      rw [e1] at g7
      have ho := h.e _ (V_obj hi)
      have hcl := clone_any (P (3 + 2 * i)) (s.E (3 + 2 * i)) W (by have := hL i hi; omega) (owns_cap0 ho) (Rd.of_owns ho)
      have HCL := Lib.hid hcl
      have hw : IntKind.i64.wrap (id - 1) = (i : Int) := by rw [IntKind.wrap_i64]; omega
      have i0 : (0 : Int) ≤ (i : Int) := by omega
      have i1 : (i : Int) < (s.nO : Int) := by omega
      have h3 : ¬ (s.nO : Int) < id := h2
      clear h hL e1 ho hcl hi hid
      generalize s.E (3 + 2 * i) = l at *
      generalize s.nO = n at *
      go_enter Tryd.func23, Tryd.ntmps23
      go_wp2_with (first
        | (go_at_call 14; refine HC.out.mono ?_; rintro e w9 ⟨rfl, hw9⟩; obtain rfl : W = w9 := hw9.symm)
        | (go_at_call 40; refine HCL.out.mono ?_; rintro e w9 ⟨p', cap', rfl, hown, hb⟩))
      go_ret
      exact ⟨p', cap', rfl, hown, hb⟩
end Go.Proofs.YtadkmidipjlcjaaDoor.Gra
