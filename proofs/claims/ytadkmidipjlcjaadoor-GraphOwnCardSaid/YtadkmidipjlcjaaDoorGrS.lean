/-
  copies: rows that are the same, all of them new.
-/
import Derived.Test.YtadkmidipjlcjaaDoorGrR
import Derived.Test.YtadkmidipjlcjaaDoorGrK
import Derived.Maps.AppendAt
namespace Go.Proofs.YtadkmidipjlcjaaDoor.Gra
open Go.RowKit Go.Proofs.YtadkmidipjlcjaaDoor.Opr
open Go.Proofs.YtadkmidipjlcjaaDoor.Row (rowB rowB_none Chg owns_chg owns_cell owns_lt owns_base cellsZ cellsZ_length cellsZ_at Rd clone_any push_row info_parts one_at)

structure NewRows (W w' : World) (p' : Option Addr) (cap' n : Nat) (Q : Nat → Option Addr) (J : Nat → Nat) (E : Nat → List Int) : Prop where
  ow : w'.ownsRow W.heap.size 32 1 (.slice p' n cap') n ((List.range n).map fun i => .slice (Q i) (E i).length (J i))
  el : ∀ i, i < n → w'.ownsRow W.heap.size 3 1 (.slice (Q i) (E i).length (J i)) (E i).length (cellsZ (E i))
  ap : ∀ i j x, i ≠ j → rowB (Q i) x → ¬ rowB (Q j) x
  ao : ∀ i x, rowB p' x → ¬ rowB (Q i) x
  no : ∀ i, n ≤ i → Q i = none
  bl : Below W.heap.size W w'
theorem NewRows.lt {W w' : World} {p' : Option Addr} {cap' n : Nat} {Q : Nat → Option Addr} {J : Nat → Nat} {E : Nat → List Int} (h : NewRows W w' p' cap' n Q J E) {i x : Nat} (hx : rowB (Q i) x) : W.heap.size ≤ x ∧ x < w'.heap.size := by
  by_cases hi : i < n
  · exact owns_lt (h.el i hi) hx
  · rw [h.no i (by omega)] at hx
    exact absurd hx (rowB_none x)
theorem NewRows.later {W w' w2 : World} {p' : Option Addr} {cap' n : Nat} {Q : Nat → Option Addr} {J : Nat → Nat} {E : Nat → List Int} (h : NewRows W w' p' cap' n Q J E) (hb : Below w'.heap.size w' w2) : NewRows W w2 p' cap' n Q J E :=
  ⟨owns_chg h.ow (Chg.of_below (S := fun _ => False) hb) (fun _ _ e => e), fun i hi => owns_chg (h.el i hi) (Chg.of_below (S := fun _ => False) hb) (fun _ _ e => e), h.ap, h.ao, h.no, h.bl.trans (hb.mono h.bl.size)⟩
theorem NewRows.push {W wr w2 w3 : World} {pl p' p1 : Option Addr} {capl cap' c1 j : Nat} {Q : Nat → Option Addr} {J : Nat → Nat} {E : Nat → List Int} {o : Obj} (h : NewRows W wr pl capl j Q J E) (hb : Below wr.heap.size wr w2)
    (h1 : w2.ownsRow wr.heap.size 3 1 (.slice p1 (E j).length c1) (E j).length (cellsZ (E j)))
    (hown : w3.ownsRow W.heap.size 32 1 (.slice p' (j + 1) cap') (j + 1) ((List.range j).map (fun i => .slice (Q i) (E i).length (J i)) ++ [.slice p1 (E j).length c1]))
    (hC : Chg (rowB pl) (w2.alloc o) w3) (hR : ∀ k, rowB p' k → rowB pl k ∨ (w2.alloc o).heap.size ≤ k) :
    NewRows W w3 p' cap' (j + 1) (fun i => if i = j then p1 else Q i) (fun i => if i = j then c1 else J i) E := by
  have hsz : (w2.alloc o).heap.size = w2.heap.size + 1 := by simp
  have hb2 : Below wr.heap.size wr (w2.alloc o) := hb.alloc hb.size o
  have hCr : Chg (rowB pl) wr w3 := (Chg.of_below hb2).trans hC (fun _ e => .inl e)
  have hpl : ∀ k, rowB pl k → W.heap.size ≤ k ∧ k < wr.heap.size := fun k hk => owns_lt h.ow hk
  have hp1 : ∀ k, rowB p1 k → wr.heap.size ≤ k ∧ k < w2.heap.size := fun k hk => owns_lt h1 hk
  have hQ : ∀ i k, rowB (Q i) k → k < wr.heap.size := fun i k hk => (h.lt hk).2
  have hW := h.bl.size
  have h2 := hb.size
  refine ⟨?_, ?_, ?_, ?_, ?_, ?_⟩
  · have e : (List.range (j + 1)).map (fun i => Value.slice (if i = j then p1 else Q i) (E i).length (if i = j then c1 else J i)) = (List.range j).map (fun i => .slice (Q i) (E i).length (J i)) ++ [.slice p1 (E j).length c1] := by
      rw [List.range_succ, List.map_append]
      congr 1
      · refine List.map_congr_left fun i hi => ?_
        have := List.mem_range.1 hi
        rw [if_neg (by omega), if_neg (by omega)]
      · simp
    rw [e]; exact hown
  · intro i hi
    by_cases e : i = j
    · subst e
      rw [if_pos rfl, if_pos rfl]
      refine owns_chg (owns_chg (owns_base hW h1) (Chg.of_below (S := fun _ => False) ((Below.refl _ w2).alloc (Nat.le_refl _) o)) (fun _ _ e => e)) hC (fun g hg e => ?_)
      have := hp1 g hg; have := hpl g e; omega
    · rw [if_neg e, if_neg e]
      exact owns_chg (h.el i (by omega)) hCr (fun g hg e => h.ao i g e hg)
  · intro i k x hik hi hk
    by_cases e1 : i = j
    · rw [if_pos e1] at hi
      rw [if_neg (by omega)] at hk
      have := hp1 x hi; have := hQ k x hk; omega
    · rw [if_neg e1] at hi
      by_cases e2 : k = j
      · rw [if_pos e2] at hk
        have := hp1 x hk; have := hQ i x hi; omega
      · rw [if_neg e2] at hk
        exact h.ap i k x hik hi hk
  · intro i x hx hi
    by_cases e1 : i = j
    · rw [if_pos e1] at hi
      have := hp1 x hi
      rcases hR x hx with h | h
      · have := hpl x h; omega
      · omega
    · rw [if_neg e1] at hi
      rcases hR x hx with h3 | h3
      · exact h.ao i x h3 hi
      · have := hQ i x hi; omega
  · intro i hi
    rw [if_neg (by omega)]
    exact h.no i (by omega)
  · exact h.bl.trans (hCr.below (fun k hk => (hpl k hk).1) hW)

set_option maxRecDepth 100000 in
set_option maxHeartbeats 4000000 in
theorem copies_any {W : World} {p : Option Addr} {cap n : Nat} {P : Nat → Option Addr} {K : Nat → Nat} {E : Nat → List Int} {f : Nat → Nat} (ho : W.ownsRow 0 32 1 (.slice p n cap) n (valsR P K E f n))
    (he : ∀ i, i < n → W.ownsRow 0 3 1 (.slice (P (f i)) (E (f i)).length (K (f i))) (E (f i)).length (cellsZ (E (f i)))) (hn : n ≤ 1000000) (hl : ∀ i, i < n → (E (f i)).length ≤ 2097152) :
    Calls Tryd.prog 41 #[.slice p n cap] W fun e w' => ∃ p' cap', e = .returned (.slice p' n cap') ∧ ∃ Q J, NewRows W w' p' cap' n Q J (fun i => E (f i)) := by
  obtain ⟨i0, hinf, hz0, hz1, hz2⟩ := info_parts infoRow
  have HO := Lib.hid ho
  have HE := Lib.hid he
  have HL := Lib.hid hl
  have HNN := Lib.hid hn
  clear ho he hl hn
  go_enter Tryd.func41, Tryd.ntmps41
  go_wp2_with fail
  go_loopw [3, 8] (fun l i wr => ∃ j : Nat, j ≤ n ∧ i = .int .i64 j ∧ ∃ pl capl Q J, l = .slice pl j capl ∧ NewRows W wr pl capl j Q J (fun i => E (f i))) (fun _ i _ => n - (intOf i).toNat)
  case atStart => exact ⟨0, Nat.zero_le _, rfl, none, 0, fun _ => none, fun _ => 0, rfl, ⟨⟨rfl, .inl ⟨rfl, rfl⟩⟩, fun i hi => absurd hi (Nat.not_lt_zero _), fun _ _ x _ h => absurd h (rowB_none x), fun _ x h => absurd h (rowB_none x), fun _ _ => rfl, Below.refl _ _⟩⟩
  case round =>
    obtain ⟨j, hj, rfl, pl, capl, Q, J, rfl, hR⟩ := hrel
    have HR := Lib.hid hR
    clear hR
    have j0 : (0 : Int) ≤ (j : Int) := by omega
    by_cases hlt : j < n
    · have j1 : (j : Int) < (n : Int) := by omega
      obtain ⟨R, rfl⟩ := owns_form HO.out (by omega)
      have hc0 := owns_cell HO.out j _ (valsR_at (f := f) hlt)
      have hc := (HR.out.bl.cell (p := ⟨R, j, none⟩) (lt_of_cell hc0)).trans hc0
      have hej := owns_chg (HE.out j hlt) (Chg.of_below (S := fun _ => False) HR.out.bl) (fun _ _ e => e)
      have HCL := Lib.hid (clone_any (P (f j)) (E (f j)) wr (HL.out j hlt) (owns_cap0 hej) (Rd.of_owns hej))
      have hjn : j + 1 ≤ 1000001 := by have := HNN.out; omega
      have HFIN : Hid (∀ w2 w3 p1 c1 p' cap' o, Below wr.heap.size wr w2 → w2.ownsRow wr.heap.size 3 1 (.slice p1 (E (f j)).length c1) (E (f j)).length (cellsZ (E (f j))) →
          w3.ownsRow W.heap.size 32 1 (.slice p' (j + 1) cap') (j + 1) ((List.range j).map (fun i => .slice (Q i) (E (f i)).length (J i)) ++ [.slice p1 (E (f j)).length c1]) →
          Chg (rowB pl) (w2.alloc o) w3 → (∀ k, rowB p' k → rowB pl k ∨ (w2.alloc o).heap.size ≤ k) →
          NewRows W w3 p' cap' (j + 1) (fun i => if i = j then p1 else Q i) (fun i => if i = j then c1 else J i) (fun i => E (f i))) := Lib.hid fun w2 w3 p1 c1 p' cap' o a b c d e => NewRows.push HR.out a b c d e
      have HOW : Hid (∀ w2 o, Below wr.heap.size wr w2 → (w2.alloc o).ownsRow W.heap.size 32 1 (.slice pl j capl) j ((List.range j).map fun i => .slice (Q i) (E (f i)).length (J i))) := Lib.hid fun w2 o hb => owns_chg HR.out.ow (Chg.of_below (S := fun _ => False) (hb.alloc hb.size o)) (fun _ _ e => e)
      have HSZ : Hid (∀ w2 o, Below wr.heap.size wr w2 → W.heap.size ≤ (w2.alloc o).heap.size) := Lib.hid fun w2 o hb => by
        have := hb.size; have := HR.out.bl.size; rw [World.size_alloc]; omega
      generalize hvs : (List.range j).map (fun i => Value.slice (Q i) (E (f i)).length (J i)) = vs at *
      generalize hLL : (E (f j)).length = L at *
      clear hc0 hej
      go_wp2_with (first
        | (go_at_call 40; refine HCL.out.mono ?_; rintro e w2 ⟨p1, c1, rfl, hown1, hb1⟩; have HB1 := Lib.hid hb1; have HOWN1 := Lib.hid hown1; clear hb1 hown1)
        | (at_builtin; refine wpList_append_own_at _ rfl _ _ 60 rfl W.heap.size 32 i0 (.slice none 0 0) 1 24 Tryd.underlying60 hinf hz0 hz1 hz2 rfl (by decide) (.slice pl j capl) j vs rfl (HOW.out _ _ HB1.out) ⟨w2.heap.size, 0, none⟩ 1 1 [.slice p1 L c1] rfl rfl (one_at rfl) (by simp [Value.oneCell']) (by unfold maxLen; omega) (by omega) (HSZ.out _ _ HB1.out) ?_; intro v' w3 hown hgrow _ hat; obtain ⟨p', cap', rfl, hC, hR⟩ := push_row (Y := w2.alloc (.cells #[.slice p1 L c1] 32)) (p := pl) (cap := capl) (n := j) (Below.refl _ _) hown hgrow hat; have HN := Lib.hid (HFIN.out w2 w3 p1 c1 p' cap' (.cells #[.slice p1 L c1] 32) HB1.out HOWN1.out hown hC hR); clear hown hgrow hat hC hR))
      go_roundw
      case rel => exact ⟨j + 1, by omega, by go_num, p', cap', _, _, rfl, HN.out⟩
      case measure => simp [intOf]; omega
    · obtain rfl : j = n := by omega
      go_wp2_with fail
      go_ret
      exact ⟨pl, capl, rfl, Q, J, HR.out⟩
end Go.Proofs.YtadkmidipjlcjaaDoor.Gra
