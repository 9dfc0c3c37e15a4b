/-
  What is told of a graph; copies.
-/
import Derived.Test.YtcdnbheoelnghaaDoorGrN
import Derived.Test.YtcdnbheoelnghaaDoorGrK
import Derived.Maps.AppendAt
import Derived.Deep.RegionHeld3
namespace Go.Proofs.YtcdnbheoelnghaaDoor.Gra
open Go.RowKit Go.Proofs.YtcdnbheoelnghaaDoor.Opr
open Go.Proofs.YtcdnbheoelnghaaDoor.Row (rowB rowB_none Chg owns_chg owns_cell cellsZ cellsZ_length cellsZ_at Rd clone_any)

theorem RowAt.of_owns {W : World} {p : Option Addr} {cap : Nat} {l : List Int} (h : W.ownsRow 0 3 1 (.slice p l.length cap) l.length (cellsZ l)) : RowAt W p l := fun i hi => by
  obtain ⟨Q, rfl⟩ := owns_form h (by omega)
  exact ⟨Q, 0, rfl, by rw [Nat.zero_add]; exact owns_cell h i _ (cellsZ_at l hi)⟩
/-- A mutator's register, whatever the numbers. -/
def rgI (s : GSt) (m q : Int) : Int := if 0 ≤ m ∧ m < s.nR then atI (s.E (4 + 2 * m.toNat)) q else 0
theorem reg_is {c : C7} {W : World} {G : Nat} {P : Nat → Option Addr} {K : Nat → Nat} {s : GSt} (h : GIs c W G P K s) (m q : Int) :
    Calls Tryd.prog 17 #[.pointer (some ⟨G, 0, none⟩), .int .i64 m, .int .i64 q] W fun e w' => e = .returned (.int .i64 (rgI s m q)) ∧ w' = W := by
  have hr := h.r
  have hl : ((List.range s.nR).map fun i => s.E (4 + 2 * i)).length = s.nR := by simp
  rw [← hl] at hr
  have hR : RowsAt W (P 1) ((List.range s.nR).map fun i => s.E (4 + 2 * i)) := fun i hi => by
    rw [hl] at hi
    obtain ⟨R, h1, h2⟩ := h.rowR hi
    have hg : ((List.range s.nR).map fun i => s.E (4 + 2 * i)).getD i [] = s.E (4 + 2 * i) := by
      simp [List.getD_eq_getElem?_getD, hi]
    rw [hg]
    exact ⟨R, 0, _, _, h1, by rw [Nat.zero_add]; exact h2, RowAt.of_owns (h.e _ (V_reg hi))⟩
  refine (reg_any G (P 1) (K 1) _ m q W hr hR).mono ?_
  rintro e w' ⟨rfl, rfl⟩
  refine ⟨?_, rfl⟩
  rw [hl]
  unfold rgI
  by_cases hm : 0 ≤ m ∧ m < s.nR
  · rw [if_pos hm, if_pos hm]
    have hg : ((List.range s.nR).map fun i => s.E (4 + 2 * i)).getD m.toNat [] = s.E (4 + 2 * m.toNat) := by
      have : m.toNat < s.nR := by omega
      simp [List.getD_eq_getElem?_getD, this]
    rw [hg]
  · rw [if_neg hm, if_neg hm]
theorem cell_is {c : C7} {W : World} {G : Nat} {P : Nat → Option Addr} {K : Nat → Nat} {s : GSt} (h : GIs c W G P K s) (i : Int) :
    Calls Tryd.prog 19 #[.pointer (some ⟨G, 0, none⟩), .int .i64 i] W fun e w' => e = .returned (.int .i64 (atI (s.E 2) i)) ∧ w' = W :=
  cell_any G (P 2) (K 2) (s.E 2) i W h.c (RowAt.of_owns (h.e 2 (V_cells s)))
theorem count_is {c : C7} {W : World} {G : Nat} {P : Nat → Option Addr} {K : Nat → Nat} {s : GSt} (h : GIs c W G P K s) :
    Calls Tryd.prog 11 #[.pointer (some ⟨G, 0, none⟩)] W fun e w' => e = .returned (.int .i64 s.nO) ∧ w' = W := count_any G _ _ _ W h.o

/-- A new row that has these numbers. -/
def NewR (W : World) (l : List Int) (e : Ending) (w' : World) : Prop := ∃ p' cap', e = .returned (.slice p' l.length cap') ∧ w'.ownsRow W.heap.size 3 1 (.slice p' l.length cap') l.length (cellsZ l) ∧ Below W.heap.size W w'
/-- An object's fields, whatever the number. -/
def fdI (s : GSt) (id : Int) : List Int := if 1 ≤ id ∧ id ≤ s.nO then s.E (3 + 2 * (id - 1).toNat) else []
theorem owns_cap0 {w : World} {base cap n : Nat} {e : TypeId} {p : Option Addr} {xs : List Value} (h : w.ownsRow base e 1 (.slice p n cap) n xs) : p = none → cap = 0 := by
  rintro rfl
  obtain ⟨_, ⟨h2, _⟩ | ⟨g', c, cur, e1, _⟩⟩ := h
  · cases h2; rfl
  · cases e1
set_option maxRecDepth 100000 in
set_option maxHeartbeats 2000000 in
theorem fields_is {c : C7} {W : World} {G : Nat} {P : Nat → Option Addr} {K : Nat → Nat} {s : GSt} (h : GIs c W G P K s) (hN : s.nO ≤ 1000000) (hL : ∀ i, i < s.nO → (s.E (3 + 2 * i)).length ≤ 15) (id : Int) :
    Calls Tryd.prog 20 #[.pointer (some ⟨G, 0, none⟩), .int .i64 id] W (NewR W (fdI s id)) := by
  have HC := Lib.hid (count_is h)
  by_cases h1 : id < 1
  · have e : fdI s id = [] := by unfold fdI; rw [if_neg (by omega)]
    rw [e]
    have hd : decide (id < 1) = true := decide_eq_true h1
    go_enter Tryd.func20, Tryd.ntmps20
    go_wp2_with fail
    go_ret
    exact ⟨none, 0, rfl, ⟨rfl, .inl ⟨rfl, rfl⟩⟩, Below.refl _ _⟩
  · have h0 : (0 : Int) < id := by omega
    by_cases h2 : (s.nO : Int) < id
    · have e : fdI s id = [] := by unfold fdI; rw [if_neg (by omega)]
      rw [e]
      clear h hL hN
      generalize s.nO = n at *
      go_enter Tryd.func20, Tryd.ntmps20
      go_wp2_with (go_at_call 11; refine HC.out.mono ?_; rintro e w9 ⟨rfl, hw9⟩; obtain rfl : W = w9 := hw9.symm)
      go_ret
      exact ⟨none, 0, rfl, ⟨rfl, .inl ⟨rfl, rfl⟩⟩, Below.refl _ _⟩
    · have hi : (id - 1).toNat < s.nO := by omega
      have e : fdI s id = s.E (3 + 2 * (id - 1).toNat) := by unfold fdI; rw [if_pos (by omega)]
      rw [e]
      obtain ⟨i, hid⟩ : ∃ i : Nat, (id - 1).toNat = i := ⟨_, rfl⟩
      rw [hid] at hi ⊢
      obtain ⟨R, e1, g1⟩ := h.rowO hi
      have g7 := h.o
      rw [e1] at g7
      have ho := h.e _ (V_obj hi)
      have hcl := clone_any (P (3 + 2 * i)) (s.E (3 + 2 * i)) W (by have := hL i hi; omega) (owns_cap0 ho) (Rd.of_owns ho)
      have HCL := Lib.hid hcl
      have hw : IntKind.i64.wrap (id - 1) = (i : Int) := by rw [IntKind.wrap_i64]; omega
      have i0 : (0 : Int) ≤ (i : Int) := by omega
      have i1 : (i : Int) < (s.nO : Int) := by omega
      have h3 : ¬ (s.nO : Int) < id := h2
      clear h hL e1 ho hcl hi hid
      generalize s.E (3 + 2 * i) = l at *
      generalize s.nO = n at *
      go_enter Tryd.func20, Tryd.ntmps20
      go_wp2_with (first
        | (go_at_call 11; refine HC.out.mono ?_; rintro e w9 ⟨rfl, hw9⟩; obtain rfl : W = w9 := hw9.symm)
        | (go_at_call 36; refine HCL.out.mono ?_; rintro e w9 ⟨p', cap', rfl, hown, hb⟩))
      go_ret
      exact ⟨p', cap', rfl, hown, hb⟩
end Go.Proofs.YtcdnbheoelnghaaDoor.Gra

namespace Go.Proofs.YtcdnbheoelnghaaDoor.Gra
open Go.RowKit Go.Proofs.YtcdnbheoelnghaaDoor.Opr
open Go.Proofs.YtcdnbheoelnghaaDoor.Row (rowB rowB_none Chg owns_chg owns_cell owns_lt owns_base cellsZ cellsZ_length cellsZ_at Rd clone_any push_row info_parts one_at)

structure NewRows (W w' : World) (p' : Option Addr) (cap' n : Nat) (Q : Nat → Option Addr) (J : Nat → Nat) (E : Nat → List Int) : Prop where
  ow : w'.ownsRow W.heap.size 32 1 (.slice p' n cap') n ((List.range n).map fun i => .slice (Q i) (E i).length (J i))
  el : ∀ i, i < n → w'.ownsRow W.heap.size 3 1 (.slice (Q i) (E i).length (J i)) (E i).length (cellsZ (E i))
  ap : ∀ i j x, i ≠ j → rowB (Q i) x → ¬ rowB (Q j) x
  ao : ∀ i x, rowB p' x → ¬ rowB (Q i) x
  no : ∀ i, n ≤ i → Q i = none
  bl : Below W.heap.size W w'
theorem NewRows.lt {W w' : World} {p' : Option Addr} {cap' n : Nat} {Q : Nat → Option Addr} {J : Nat → Nat} {E : Nat → List Int} (h : NewRows W w' p' cap' n Q J E) {i x : Nat} (hx : rowB (Q i) x) : W.heap.size ≤ x ∧ x < w'.heap.size := by
  by_cases hi : i < n
  · exact owns_lt (h.el i hi) hx
  · rw [h.no i (by omega)] at hx
    exact absurd hx (rowB_none x)
theorem NewRows.later {W w' w2 : World} {p' : Option Addr} {cap' n : Nat} {Q : Nat → Option Addr} {J : Nat → Nat} {E : Nat → List Int} (h : NewRows W w' p' cap' n Q J E) (hb : Below w'.heap.size w' w2) : NewRows W w2 p' cap' n Q J E :=
  ⟨owns_chg h.ow (Chg.of_below (S := fun _ => False) hb) (fun _ _ e => e), fun i hi => owns_chg (h.el i hi) (Chg.of_below (S := fun _ => False) hb) (fun _ _ e => e), h.ap, h.ao, h.no, h.bl.trans (hb.mono h.bl.size)⟩
theorem NewRows.push {W wr w2 w3 : World} {pl p' p1 : Option Addr} {capl cap' c1 j : Nat} {Q : Nat → Option Addr} {J : Nat → Nat} {E : Nat → List Int} {o : Obj} (h : NewRows W wr pl capl j Q J E) (hb : Below wr.heap.size wr w2)
    (h1 : w2.ownsRow wr.heap.size 3 1 (.slice p1 (E j).length c1) (E j).length (cellsZ (E j)))
    (hown : w3.ownsRow W.heap.size 32 1 (.slice p' (j + 1) cap') (j + 1) ((List.range j).map (fun i => .slice (Q i) (E i).length (J i)) ++ [.slice p1 (E j).length c1]))
    (hC : Chg (rowB pl) (w2.alloc o) w3) (hR : ∀ k, rowB p' k → rowB pl k ∨ (w2.alloc o).heap.size ≤ k) :
    NewRows W w3 p' cap' (j + 1) (fun i => if i = j then p1 else Q i) (fun i => if i = j then c1 else J i) E := by
  have hsz : (w2.alloc o).heap.size = w2.heap.size + 1 := by simp
  have hb2 : Below wr.heap.size wr (w2.alloc o) := hb.alloc hb.size o
  have hCr : Chg (rowB pl) wr w3 := (Chg.of_below hb2).trans hC (fun _ e => .inl e)
  have hpl : ∀ k, rowB pl k → W.heap.size ≤ k ∧ k < wr.heap.size := fun k hk => owns_lt h.ow hk
  have hp1 : ∀ k, rowB p1 k → wr.heap.size ≤ k ∧ k < w2.heap.size := fun k hk => owns_lt h1 hk
  have hQ : ∀ i k, rowB (Q i) k → k < wr.heap.size := fun i k hk => (h.lt hk).2
  have hW := h.bl.size
  have h2 := hb.size
  refine ⟨?_, ?_, ?_, ?_, ?_, ?_⟩
  · have e : (List.range (j + 1)).map (fun i => Value.slice (if i = j then p1 else Q i) (E i).length (if i = j then c1 else J i)) = (List.range j).map (fun i => .slice (Q i) (E i).length (J i)) ++ [.slice p1 (E j).length c1] := by
      rw [List.range_succ, List.map_append]
      congr 1
      · refine List.map_congr_left fun i hi => ?_
        have := List.mem_range.1 hi
        rw [if_neg (by omega), if_neg (by omega)]
      · simp
    rw [e]; exact hown
  · intro i hi
    by_cases e : i = j
    · subst e
      rw [if_pos rfl, if_pos rfl]
      refine owns_chg (owns_chg (owns_base hW h1) (Chg.of_below (S := fun _ => False) ((Below.refl _ w2).alloc (Nat.le_refl _) o)) (fun _ _ e => e)) hC (fun g hg e => ?_)
      have := hp1 g hg; have := hpl g e; omega
    · rw [if_neg e, if_neg e]
      exact owns_chg (h.el i (by omega)) hCr (fun g hg e => h.ao i g e hg)
  · intro i k x hik hi hk
    by_cases e1 : i = j
    · rw [if_pos e1] at hi
      rw [if_neg (by omega)] at hk
      have := hp1 x hi; have := hQ k x hk; omega
    · rw [if_neg e1] at hi
      by_cases e2 : k = j
      · rw [if_pos e2] at hk
        have := hp1 x hk; have := hQ i x hi; omega
      · rw [if_neg e2] at hk
        exact h.ap i k x hik hi hk
  · intro i x hx hi
    by_cases e1 : i = j
    · rw [if_pos e1] at hi
      have := hp1 x hi
      rcases hR x hx with h | h
      · have := hpl x h; omega
      · omega
    · rw [if_neg e1] at hi
      rcases hR x hx with h3 | h3
      · exact h.ao i x h3 hi
      · have := hQ i x hi; omega
  · intro i hi
    rw [if_neg (by omega)]
    exact h.no i (by omega)
  · exact h.bl.trans (hCr.below (fun k hk => (hpl k hk).1) hW)

set_option maxRecDepth 100000 in
set_option maxHeartbeats 4000000 in
theorem copies_any {W : World} {p : Option Addr} {cap n : Nat} {P : Nat → Option Addr} {K : Nat → Nat} {E : Nat → List Int} {f : Nat → Nat} (ho : W.ownsRow 0 32 1 (.slice p n cap) n (valsR P K E f n))
    (he : ∀ i, i < n → W.ownsRow 0 3 1 (.slice (P (f i)) (E (f i)).length (K (f i))) (E (f i)).length (cellsZ (E (f i)))) (hn : n ≤ 1000000) (hl : ∀ i, i < n → (E (f i)).length ≤ 2097152) :
    Calls Tryd.prog 37 #[.slice p n cap] W fun e w' => ∃ p' cap', e = .returned (.slice p' n cap') ∧ ∃ Q J, NewRows W w' p' cap' n Q J (fun i => E (f i)) := by
  obtain ⟨i0, hinf, hz0, hz1, hz2⟩ := info_parts infoRow
  have HO := Lib.hid ho
  have HE := Lib.hid he
  have HL := Lib.hid hl
  have HNN := Lib.hid hn
  clear ho he hl hn
  go_enter Tryd.func37, Tryd.ntmps37
  go_wp2_with fail
  go_loopw [3, 8] (fun l i wr => ∃ j : Nat, j ≤ n ∧ i = .int .i64 j ∧ ∃ pl capl Q J, l = .slice pl j capl ∧ NewRows W wr pl capl j Q J (fun i => E (f i))) (fun _ i _ => n - (intOf i).toNat)
  case atStart => exact ⟨0, Nat.zero_le _, rfl, none, 0, fun _ => none, fun _ => 0, rfl, ⟨⟨rfl, .inl ⟨rfl, rfl⟩⟩, fun i hi => absurd hi (Nat.not_lt_zero _), fun _ _ x _ h => absurd h (rowB_none x), fun _ x h => absurd h (rowB_none x), fun _ _ => rfl, Below.refl _ _⟩⟩
  case round =>
    obtain ⟨j, hj, rfl, pl, capl, Q, J, rfl, hR⟩ := hrel
    have HR := Lib.hid hR
    clear hR
    have j0 : (0 : Int) ≤ (j : Int) := by omega
    by_cases hlt : j < n
    · have j1 : (j : Int) < (n : Int) := by omega
      obtain ⟨R, rfl⟩ := owns_form HO.out (by omega)
      have hc0 := owns_cell HO.out j _ (valsR_at (f := f) hlt)
      have hc := (HR.out.bl.cell (p := ⟨R, j, none⟩) (lt_of_cell hc0)).trans hc0
      have hej := owns_chg (HE.out j hlt) (Chg.of_below (S := fun _ => False) HR.out.bl) (fun _ _ e => e)
      have HCL := Lib.hid (clone_any (P (f j)) (E (f j)) wr (HL.out j hlt) (owns_cap0 hej) (Rd.of_owns hej))
      have hjn : j + 1 ≤ 1000001 := by have := HNN.out; omega
      have HFIN : Hid (∀ w2 w3 p1 c1 p' cap' o, Below wr.heap.size wr w2 → w2.ownsRow wr.heap.size 3 1 (.slice p1 (E (f j)).length c1) (E (f j)).length (cellsZ (E (f j))) →
          w3.ownsRow W.heap.size 32 1 (.slice p' (j + 1) cap') (j + 1) ((List.range j).map (fun i => .slice (Q i) (E (f i)).length (J i)) ++ [.slice p1 (E (f j)).length c1]) →
          Chg (rowB pl) (w2.alloc o) w3 → (∀ k, rowB p' k → rowB pl k ∨ (w2.alloc o).heap.size ≤ k) →
          NewRows W w3 p' cap' (j + 1) (fun i => if i = j then p1 else Q i) (fun i => if i = j then c1 else J i) (fun i => E (f i))) := Lib.hid fun w2 w3 p1 c1 p' cap' o a b c d e => NewRows.push HR.out a b c d e
      have HOW : Hid (∀ w2 o, Below wr.heap.size wr w2 → (w2.alloc o).ownsRow W.heap.size 32 1 (.slice pl j capl) j ((List.range j).map fun i => .slice (Q i) (E (f i)).length (J i))) := Lib.hid fun w2 o hb => owns_chg HR.out.ow (Chg.of_below (S := fun _ => False) (hb.alloc hb.size o)) (fun _ _ e => e)
      have HSZ : Hid (∀ w2 o, Below wr.heap.size wr w2 → W.heap.size ≤ (w2.alloc o).heap.size) := Lib.hid fun w2 o hb => by
        have := hb.size; have := HR.out.bl.size; rw [World.size_alloc]; omega
      generalize hvs : (List.range j).map (fun i => Value.slice (Q i) (E (f i)).length (J i)) = vs at *
      generalize hLL : (E (f j)).length = L at *
      clear hc0 hej
      go_wp2_with (first
        | (go_at_call 36; refine HCL.out.mono ?_; rintro e w2 ⟨p1, c1, rfl, hown1, hb1⟩; have HB1 := Lib.hid hb1; have HOWN1 := Lib.hid hown1; clear hb1 hown1)
        | (at_builtin; refine wpList_append_own_at _ rfl _ _ 58 rfl W.heap.size 32 i0 (.slice none 0 0) 1 24 Tryd.underlying58 hinf hz0 hz1 hz2 rfl (by decide) (.slice pl j capl) j vs rfl (HOW.out _ _ HB1.out) ⟨w2.heap.size, 0, none⟩ 1 1 [.slice p1 L c1] rfl rfl (one_at rfl) (by simp [Value.oneCell']) (by unfold maxLen; omega) (by omega) (HSZ.out _ _ HB1.out) ?_; intro v' w3 hown hgrow _ hat; obtain ⟨p', cap', rfl, hC, hR⟩ := push_row (Y := w2.alloc (.cells #[.slice p1 L c1] 32)) (p := pl) (cap := capl) (n := j) (Below.refl _ _) hown hgrow hat; have HN := Lib.hid (HFIN.out w2 w3 p1 c1 p' cap' (.cells #[.slice p1 L c1] 32) HB1.out HOWN1.out hown hC hR); clear hown hgrow hat hC hR))
      go_roundw
      case rel => exact ⟨j + 1, by omega, by go_num, p', cap', _, _, rfl, HN.out⟩
      case measure => simp [intOf]; omega
    · obtain rfl : j = n := by omega
      go_wp2_with fail
      go_ret
      exact ⟨pl, capl, rfl, Q, J, HR.out⟩
end Go.Proofs.YtcdnbheoelnghaaDoor.Gra

namespace Go.Proofs.YtcdnbheoelnghaaDoor.Gra
open Go.RowKit Go.Proofs.YtcdnbheoelnghaaDoor.Opr
open Go.Proofs.YtcdnbheoelnghaaDoor.Row (rowB rowB_none Chg owns_chg owns_cell owns_lt owns_base cellsZ cellsZ_length cellsZ_at Rd clone_any push_row info_parts one_at)

def cpP (p0 p1 pc : Option Addr) (Q0 Q1 : Nat → Option Addr) : Nat → Option Addr := fun j => if j = 0 then p0 else if j = 1 then p1 else if j = 2 then pc else if j % 2 = 1 then Q0 ((j - 3) / 2) else Q1 ((j - 4) / 2)
def cpK (p0 p1 pc : Nat) (Q0 Q1 : Nat → Nat) : Nat → Nat := fun j => if j = 0 then p0 else if j = 1 then p1 else if j = 2 then pc else if j % 2 = 1 then Q0 ((j - 3) / 2) else Q1 ((j - 4) / 2)
section
variable {p0 p1 pc : Option Addr} {Q0 Q1 : Nat → Option Addr}
theorem cpP_o (i : Nat) : cpP p0 p1 pc Q0 Q1 (3 + 2 * i) = Q0 i := by
  unfold cpP
  rw [if_neg (by omega), if_neg (by omega), if_neg (by omega), if_pos (by omega), show (3 + 2 * i - 3) / 2 = i by omega]
theorem cpP_r (i : Nat) : cpP p0 p1 pc Q0 Q1 (4 + 2 * i) = Q1 i := by
  unfold cpP
  rw [if_neg (by omega), if_neg (by omega), if_neg (by omega), if_neg (by omega), show (4 + 2 * i - 4) / 2 = i by omega]
theorem cp_cases (j : Nat) : j = 0 ∨ j = 1 ∨ j = 2 ∨ (∃ i, j = 3 + 2 * i) ∨ ∃ i, j = 4 + 2 * i := by
  by_cases h : j < 3
  · omega
  · by_cases h2 : j % 2 = 1
    · exact .inr (.inr (.inr (.inl ⟨(j - 3) / 2, by omega⟩)))
    · exact .inr (.inr (.inr (.inr ⟨(j - 4) / 2, by omega⟩)))
end
section
variable {p0 p1 pc : Nat} {Q0 Q1 : Nat → Nat}
theorem cpK_o (i : Nat) : cpK p0 p1 pc Q0 Q1 (3 + 2 * i) = Q0 i := by
  unfold cpK
  rw [if_neg (by omega), if_neg (by omega), if_neg (by omega), if_pos (by omega), show (3 + 2 * i - 3) / 2 = i by omega]
theorem cpK_r (i : Nat) : cpK p0 p1 pc Q0 Q1 (4 + 2 * i) = Q1 i := by
  unfold cpK
  rw [if_neg (by omega), if_neg (by omega), if_neg (by omega), if_neg (by omega), show (4 + 2 * i - 4) / 2 = i by omega]
end
/-- What Copy leaves. -/
def CopyP (c : C7) (s : GSt) (W : World) (G : Nat) (w' : World) : Prop := ∃ P K, GIs c w' G P K s ∧ Below W.heap.size W w' ∧ ∀ x, mine G P x → W.heap.size ≤ x
theorem copy_fin {c : C7} {s : GSt} {W A B C D F : World} {p0 p1 pc : Option Addr} {k0 k1 kc : Nat} {Q0 Q1 : Nat → Option Addr} {J0 J1 : Nat → Nat} (hA : Below W.heap.size W A)
    (h0 : NewRows A B p0 k0 s.nO Q0 J0 (fun i => s.E (3 + 2 * i))) (h1 : NewRows B C p1 k1 s.nR Q1 J1 (fun i => s.E (4 + 2 * i)))
    (h2 : D.ownsRow C.heap.size 3 1 (.slice pc (s.E 2).length kc) (s.E 2).length (cellsZ (s.E 2))) (hD : Below C.heap.size C D)
    (hF : F = D.alloc (.cells #[.int .i64 c.b, .int .i64 c.wd, .int .i64 c.m, .int .i64 c.r, .int .i64 c.ce, .int .i64 c.lg, .int .i64 c.st, .slice p0 s.nO k0, .slice p1 s.nR k1, .slice pc (s.E 2).length kc] 60)) :
    CopyP c s W D.heap.size F := by
  have hX : CellsAt F D.heap.size [.int .i64 c.b, .int .i64 c.wd, .int .i64 c.m, .int .i64 c.r, .int .i64 c.ce, .int .i64 c.lg, .int .i64 c.st, .slice p0 s.nO k0, .slice p1 s.nR k1, .slice pc (s.E 2).length kc] := by
    rw [hF]; exact CellsAt.new _ _ _
  have hDF : Below D.heap.size D F := by rw [hF]; exact (Below.refl _ _).alloc (Nat.le_refl _) _
  have hfz : ∀ j, F.frozen? ⟨D.heap.size, j, none⟩ = false := fun j => by rw [hF]; simp
  have hs0 := hA.size
  have hs1 := h0.bl.size
  have hs2 := h1.bl.size
  have hs3 := hD.size
  have hs4 := hDF.size
  have hs5 : D.heap.size < F.heap.size := by rw [hF, World.size_alloc]; exact Nat.lt_succ_self _
  have hCF : Below C.heap.size C F := hD.trans (hDF.mono hs3)
  have hBF : Below B.heap.size B F := h1.bl.trans (hCF.mono hs2)
  have hWF : Below W.heap.size W F := hA.trans ((h0.bl.trans (hBF.mono hs1)).mono hs0)
  have k0' := h0.later hBF
  have k1' := h1.later hCF
  have k2' := owns_chg h2 (Chg.of_below (S := fun _ => False) hDF) (fun _ _ e => e)
  clear hF
  have rO : ∀ x, rowB p0 x → A.heap.size ≤ x ∧ x < B.heap.size := fun x hx => owns_lt h0.ow hx
  have rQ0 : ∀ i x, rowB (Q0 i) x → A.heap.size ≤ x ∧ x < B.heap.size := fun i x hx => h0.lt hx
  have rR : ∀ x, rowB p1 x → B.heap.size ≤ x ∧ x < C.heap.size := fun x hx => owns_lt h1.ow hx
  have rQ1 : ∀ i x, rowB (Q1 i) x → B.heap.size ≤ x ∧ x < C.heap.size := fun i x hx => h1.lt hx
  have rC : ∀ x, rowB pc x → C.heap.size ≤ x ∧ x < D.heap.size := fun x hx => owns_lt h2 hx
  have hrow : ∀ j x, rowB (cpP p0 p1 pc Q0 Q1 j) x → A.heap.size ≤ x ∧ x < D.heap.size := fun j x hx => by
    rcases cp_cases j with rfl | rfl | rfl | ⟨i, rfl⟩ | ⟨i, rfl⟩
    · have := rO x hx; omega
    · have := rR x hx; omega
    · have := rC x hx; omega
    · rw [cpP_o] at hx; have := rQ0 i x hx; omega
    · rw [cpP_r] at hx; have := rQ1 i x hx; omega
  refine ⟨cpP p0 p1 pc Q0 Q1, cpK k0 k1 kc J0 J1, ⟨?_, hX 7 _ rfl, hX 8 _ rfl, hX 9 _ rfl, hfz, ?_, ?_, ?_, ?_, ?_, ?_⟩, hWF, ?_⟩
  · intro j v hv
    have hj : j < 7 := (List.getElem?_eq_some_iff.1 hv).1
    refine hX j v ?_
    rw [← hv]
    have h7 : j = 0 ∨ j = 1 ∨ j = 2 ∨ j = 3 ∨ j = 4 ∨ j = 5 ∨ j = 6 := by omega
    rcases h7 with rfl | rfl | rfl | rfl | rfl | rfl | rfl <;> rfl
  · have e : valsR (cpP p0 p1 pc Q0 Q1) (cpK k0 k1 kc J0 J1) s.E fO s.nO = (List.range s.nO).map fun i => .slice (Q0 i) (s.E (3 + 2 * i)).length (J0 i) := by
      unfold valsR fO
      refine List.map_congr_left fun i _ => ?_
      rw [cpP_o, cpK_o]
    rw [e]
    exact owns_base (Nat.zero_le _) k0'.ow
  · have e : valsR (cpP p0 p1 pc Q0 Q1) (cpK k0 k1 kc J0 J1) s.E fR s.nR = (List.range s.nR).map fun i => .slice (Q1 i) (s.E (4 + 2 * i)).length (J1 i) := by
      unfold valsR fR
      refine List.map_congr_left fun i _ => ?_
      rw [cpP_r, cpK_r]
    rw [e]
    exact owns_base (Nat.zero_le _) k1'.ow
  · rintro j (rfl | ⟨i, hi, rfl⟩ | ⟨i, hi, rfl⟩)
    · exact owns_base (Nat.zero_le _) k2'
    · rw [cpP_o, cpK_o]; exact owns_base (Nat.zero_le _) (k0'.el i hi)
    · rw [cpP_r, cpK_r]; exact owns_base (Nat.zero_le _) (k1'.el i hi)
  · intro i j x hij hi hj
    rcases cp_cases i with rfl | rfl | rfl | ⟨a, rfl⟩ | ⟨a, rfl⟩ <;> rcases cp_cases j with rfl | rfl | rfl | ⟨b, rfl⟩ | ⟨b, rfl⟩ <;>
      (try rw [cpP_o] at hi) <;> (try rw [cpP_r] at hi) <;> (try rw [cpP_o] at hj) <;> (try rw [cpP_r] at hj)
    · exact hij rfl
    · have := rO x hi; have := rR x hj; omega
    · have := rO x hi; have := rC x hj; omega
    · exact h0.ao b x hi hj
    · have := rO x hi; have := rQ1 b x hj; omega
    · have := rR x hi; have := rO x hj; omega
    · exact hij rfl
    · have := rR x hi; have := rC x hj; omega
    · have := rR x hi; have := rQ0 b x hj; omega
    · exact h1.ao b x hi hj
    · have := rC x hi; have := rO x hj; omega
    · have := rC x hi; have := rR x hj; omega
    · exact hij rfl
    · have := rC x hi; have := rQ0 b x hj; omega
    · have := rC x hi; have := rQ1 b x hj; omega
    · exact h0.ao a x hj hi
    · have := rQ0 a x hi; have := rR x hj; omega
    · have := rQ0 a x hi; have := rC x hj; omega
    · exact h0.ap a b x (by omega) hi hj
    · have := rQ0 a x hi; have := rQ1 b x hj; omega
    · have := rQ1 a x hi; have := rO x hj; omega
    · exact h1.ao a x hj hi
    · have := rQ1 a x hi; have := rC x hj; omega
    · have := rQ1 a x hi; have := rQ0 b x hj; omega
    · exact h1.ap a b x (by omega) hi hj
  · intro j hj
    have := hrow j _ hj; omega
  · intro j x hx
    have := hrow j x hx; omega
  · rintro x (rfl | ⟨j, hj⟩)
    · omega
    · have := hrow j x hj; omega

set_option maxRecDepth 100000 in
set_option maxHeartbeats 4000000 in
theorem copy_any {c : C7} {W : World} {G : Nat} {P : Nat → Option Addr} {K : Nat → Nat} {s : GSt} (h : GIs c W G P K s) (hO : s.nO ≤ 1000000) (hRR : s.nR ≤ 1000000) (hl : ∀ j, s.V j → (s.E j).length ≤ 2097152) :
    Calls Tryd.prog 21 #[.pointer (some ⟨G, 0, none⟩)] W fun e w' => ∃ G', e = .returned (.pointer (some ⟨G', 0, none⟩)) ∧ CopyP c s W G' w' := by
  have c0 := h.cf 0 _ rfl
  have c1 := h.cf 1 _ rfl
  have c2 := h.cf 2 _ rfl
  have c3 := h.cf 3 _ rfl
  have c4 := h.cf 4 _ rfl
  have c5 := h.cf 5 _ rfl
  have c6 := h.cf 6 _ rfl
  have g7 := h.o
  have g8 := h.r
  have g9 := h.c
  have hG := h.ltG
  have HC7 : Hid (∀ V, Below W.heap.size W V → Calls Tryd.prog 37 #[.slice (P 0) s.nO (K 0)] V fun e w' => ∃ p' cap', e = .returned (.slice p' s.nO cap') ∧ ∃ Q J, NewRows V w' p' cap' s.nO Q J (fun i => s.E (3 + 2 * i))) := Lib.hid fun V hV => by
    have h' := h.later hV
    exact copies_any (f := fO) h'.oO (fun i hi => h'.e _ (V_obj hi)) hO (fun i hi => hl _ (V_obj hi))
  have HC8 : Hid (∀ V, Below W.heap.size W V → Calls Tryd.prog 37 #[.slice (P 1) s.nR (K 1)] V fun e w' => ∃ p' cap', e = .returned (.slice p' s.nR cap') ∧ ∃ Q J, NewRows V w' p' cap' s.nR Q J (fun i => s.E (4 + 2 * i))) := Lib.hid fun V hV => by
    have h' := h.later hV
    exact copies_any (f := fR) h'.oR (fun i hi => h'.e _ (V_reg hi)) hRR (fun i hi => hl _ (V_reg hi))
  have HC9 : Hid (∀ V, Below W.heap.size W V → Calls Tryd.prog 36 #[.slice (P 2) (s.E 2).length (K 2)] V fun e w' => ∃ p' cap', e = .returned (.slice p' (s.E 2).length cap') ∧ w'.ownsRow V.heap.size 3 1 (.slice p' (s.E 2).length cap') (s.E 2).length (cellsZ (s.E 2)) ∧ Below V.heap.size V w') := Lib.hid fun V hV => by
    have h' := (h.later hV).e 2 (V_cells s)
    exact clone_any (P 2) (s.E 2) V (hl 2 (V_cells s)) (owns_cap0 h') (Rd.of_owns h')
  have HFIN : Hid (∀ A B C D F p0 p1 pc k0 k1 kc Q0 Q1 J0 J1, Below W.heap.size W A → NewRows A B p0 k0 s.nO Q0 J0 (fun i => s.E (3 + 2 * i)) → NewRows B C p1 k1 s.nR Q1 J1 (fun i => s.E (4 + 2 * i)) →
      D.ownsRow C.heap.size 3 1 (.slice pc (s.E 2).length kc) (s.E 2).length (cellsZ (s.E 2)) → Below C.heap.size C D →
      F = D.alloc (.cells #[.int .i64 c.b, .int .i64 c.wd, .int .i64 c.m, .int .i64 c.r, .int .i64 c.ce, .int .i64 c.lg, .int .i64 c.st, .slice p0 s.nO k0, .slice p1 s.nR k1, .slice pc (s.E 2).length kc] 60) → CopyP c s W D.heap.size F) :=
    Lib.hid fun A B C D F p0 p1 pc k0 k1 kc Q0 Q1 J0 J1 a b d e f g => copy_fin a b d e f g
  clear h hO hRR hl
  have HK2 : Hid (∀ V V' : World, Below V.heap.size V V' → (Below W.heap.size W V ∧ V.cell? ⟨G, 0, none⟩ = some (.int .i64 c.b) ∧ V.cell? ⟨G, 1, none⟩ = some (.int .i64 c.wd) ∧ V.cell? ⟨G, 2, none⟩ = some (.int .i64 c.m) ∧ V.cell? ⟨G, 3, none⟩ = some (.int .i64 c.r) ∧ V.cell? ⟨G, 4, none⟩ = some (.int .i64 c.ce) ∧ V.cell? ⟨G, 5, none⟩ = some (.int .i64 c.lg) ∧ V.cell? ⟨G, 6, none⟩ = some (.int .i64 c.st) ∧ V.cell? ⟨G, 7, none⟩ = some (.slice (P 0) s.nO (K 0)) ∧ V.cell? ⟨G, 8, none⟩ = some (.slice (P 1) s.nR (K 1)) ∧ V.cell? ⟨G, 9, none⟩ = some (.slice (P 2) (s.E 2).length (K 2))) →
      (Below W.heap.size W V' ∧ V'.cell? ⟨G, 0, none⟩ = some (.int .i64 c.b) ∧ V'.cell? ⟨G, 1, none⟩ = some (.int .i64 c.wd) ∧ V'.cell? ⟨G, 2, none⟩ = some (.int .i64 c.m) ∧ V'.cell? ⟨G, 3, none⟩ = some (.int .i64 c.r) ∧ V'.cell? ⟨G, 4, none⟩ = some (.int .i64 c.ce) ∧ V'.cell? ⟨G, 5, none⟩ = some (.int .i64 c.lg) ∧ V'.cell? ⟨G, 6, none⟩ = some (.int .i64 c.st) ∧ V'.cell? ⟨G, 7, none⟩ = some (.slice (P 0) s.nO (K 0)) ∧ V'.cell? ⟨G, 8, none⟩ = some (.slice (P 1) s.nR (K 1)) ∧ V'.cell? ⟨G, 9, none⟩ = some (.slice (P 2) (s.E 2).length (K 2)))) :=
    Lib.hid fun V V' hb ⟨a, b0, b1, b2, b3, b4, b5, b6, b7, b8, b9⟩ => by
      have hz : ∀ j, V'.cell? ⟨G, j, none⟩ = V.cell? ⟨G, j, none⟩ := fun j => hb.cell (p := ⟨G, j, none⟩) (show G < V.heap.size from lt_of_cell b0)
      exact ⟨a.trans (hb.mono a.size), (hz 0).trans b0, (hz 1).trans b1, (hz 2).trans b2, (hz 3).trans b3, (hz 4).trans b4, (hz 5).trans b5, (hz 6).trans b6, (hz 7).trans b7, (hz 8).trans b8, (hz 9).trans b9⟩
  have HK0 : Hid (Below W.heap.size W W.drew ∧ W.drew.cell? ⟨G, 0, none⟩ = some (.int .i64 c.b) ∧ W.drew.cell? ⟨G, 1, none⟩ = some (.int .i64 c.wd) ∧ W.drew.cell? ⟨G, 2, none⟩ = some (.int .i64 c.m) ∧ W.drew.cell? ⟨G, 3, none⟩ = some (.int .i64 c.r) ∧ W.drew.cell? ⟨G, 4, none⟩ = some (.int .i64 c.ce) ∧ W.drew.cell? ⟨G, 5, none⟩ = some (.int .i64 c.lg) ∧ W.drew.cell? ⟨G, 6, none⟩ = some (.int .i64 c.st) ∧ W.drew.cell? ⟨G, 7, none⟩ = some (.slice (P 0) s.nO (K 0)) ∧ W.drew.cell? ⟨G, 8, none⟩ = some (.slice (P 1) s.nR (K 1)) ∧ W.drew.cell? ⟨G, 9, none⟩ = some (.slice (P 2) (s.E 2).length (K 2))) :=
    Lib.hid (HK2.out W W.drew (Below.refl _ _).drew ⟨Below.refl _ _, c0, c1, c2, c3, c4, c5, c6, g7, g8, g9⟩)
  have HAL : Hid (∀ (V : World) (o : Obj), Below V.heap.size V (V.alloc o)) := Lib.hid fun V o => (Below.refl _ _).alloc (Nat.le_refl _) o
  have HWD : Hid (Below W.heap.size W W.drew) := Lib.hid (Below.refl _ _).drew
  generalize s.nO = nO at *
  generalize s.nR = nR at *
  generalize (s.E 2).length = nC at *
  go_enter Tryd.func21, Tryd.ntmps21
  go_wp2_with fail
  go_region_held3 (fun V => Below W.heap.size W V ∧ V.cell? ⟨G, 0, none⟩ = some (.int .i64 c.b) ∧ V.cell? ⟨G, 1, none⟩ = some (.int .i64 c.wd) ∧ V.cell? ⟨G, 2, none⟩ = some (.int .i64 c.m) ∧ V.cell? ⟨G, 3, none⟩ = some (.int .i64 c.r) ∧ V.cell? ⟨G, 4, none⟩ = some (.int .i64 c.ce) ∧ V.cell? ⟨G, 5, none⟩ = some (.int .i64 c.lg) ∧ V.cell? ⟨G, 6, none⟩ = some (.int .i64 c.st) ∧ V.cell? ⟨G, 7, none⟩ = some (.slice (P 0) nO (K 0)) ∧ V.cell? ⟨G, 8, none⟩ = some (.slice (P 1) nR (K 1)) ∧ V.cell? ⟨G, 9, none⟩ = some (.slice (P 2) nC (K 2)))
    (first | exact HK0.out | exact HK2.out _ _ hbA (by assumption) | exact HK2.out _ _ hbB (by assumption) | exact HK2.out _ _ hbC (by assumption) | exact HK2.out _ _ (HAL.out _ _) (by assumption))
    (first
      | (go_at_call 37; (with_reducible refine Calls.mono (HC7.out _ (And.left (by assumption))) ?_); rintro e wA ⟨p0, k0, rfl, Q0, J0, hN⟩; have HN0 := Lib.hid hN; have hbA := hN.bl; clear hN)
      | (go_at_call 37; (with_reducible refine Calls.mono (HC8.out _ (And.left (by assumption))) ?_); rintro e wB ⟨p1, k1, rfl, Q1, J1, hN⟩; have HN1 := Lib.hid hN; have hbB := hN.bl; clear hN)
      | (go_at_call 36; refine Calls.mono (HC9.out _ (And.left (by assumption))) ?_; rintro e wC ⟨pc, kc, rfl, hown, hbC⟩; have HOC := Lib.hid hown; clear hown))
  all_goals go_wp2_with fail
  all_goals go_ret
  all_goals exact ⟨_, rfl, HFIN.out _ _ _ _ _ _ _ _ _ _ _ _ _ _ _ HWD.out HN0.out HN1.out HOC.out hbC rfl⟩
end Go.Proofs.YtcdnbheoelnghaaDoor.Gra
