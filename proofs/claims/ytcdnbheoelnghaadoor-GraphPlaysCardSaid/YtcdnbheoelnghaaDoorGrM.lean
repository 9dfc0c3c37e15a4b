/-
  New, of a right config.
-/
import Derived.Test.YtcdnbheoelnghaaDoorGrK
import Derived.Deep.RegionWith
namespace Go.Proofs.YtcdnbheoelnghaaDoor.Gra
open Go.RowKit Go.Proofs.YtcdnbheoelnghaaDoor.Opr
open Go.Proofs.YtcdnbheoelnghaaDoor.Row (rowB rowB_none Chg owns_chg owns_cell owns_lt owns_block owns_slice owns_cap cellsZ cellsZ_length cellsZ_at push_row step_append_own info_parts one_at infoInt)

/-- A row of registers more. -/
def GSt.addR (s : GSt) (x : Nat) : GSt := { nO := s.nO, nR := s.nR + 1, E := fun j => if j = 4 + 2 * s.nR then List.replicate x 0 else s.E j }
theorem GSt.addR_new (s : GSt) (x : Nat) : (s.addR x).E (4 + 2 * s.nR) = List.replicate x 0 := by simp [GSt.addR]
theorem GSt.addR_old (s : GSt) (x : Nat) {j : Nat} (h : j ≠ 4 + 2 * s.nR) : (s.addR x).E j = s.E j := by simp [GSt.addR, h]
def addQ (P : Nat → Option Addr) (n : Nat) (p' : Option Addr) (b : Nat) : Nat → Option Addr := fun j => if j = 1 then p' else if j = 4 + 2 * n then some ⟨b, 0, none⟩ else P j
def addJ (K : Nat → Nat) (n cap' x : Nat) : Nat → Nat := fun j => if j = 1 then cap' else if j = 4 + 2 * n then x else K j
theorem GIs.addR {c : C7} {w0 w3 : World} {G : Nat} {P : Nat → Option Addr} {K : Nat → Nat} {s : GSt} (h : GIs c w0 G P K s) {x cap' : Nat} {p' : Option Addr} (hx : x ≤ 1048576)
    (hown : w3.ownsRow 0 32 1 (.slice p' (s.nR + 1) cap') (s.nR + 1) (valsR P K s.E fR s.nR ++ [.slice (some ⟨w0.heap.size, 0, none⟩) x x]))
    (hC : Chg (rowB (P 1)) ((w0.alloc (.cells (zeroInts x) 3)).alloc (.cells #[.slice (some ⟨w0.heap.size, 0, none⟩) x x] 32)) w3)
    (hR : ∀ k, rowB p' k → rowB (P 1) k ∨ ((w0.alloc (.cells (zeroInts x) 3)).alloc (.cells #[.slice (some ⟨w0.heap.size, 0, none⟩) x x] 32)).heap.size ≤ k) :
    GIs c (w3.setCell ⟨G, 8, none⟩ (.slice p' (s.nR + 1) cap')) G (addQ P s.nR p' w0.heap.size) (addJ K s.nR cap' x) (s.addR x) ∧ Chg (mine G P) w0 (w3.setCell ⟨G, 8, none⟩ (.slice p' (s.nR + 1) cap')) ∧ ∀ k, mine G (addQ P s.nR p' w0.heap.size) k → mine G P k ∨ w0.heap.size ≤ k := by
  have hb1 : Below w0.heap.size w0 (w0.alloc (.cells (zeroInts x) 3)) := (Below.refl _ w0).alloc (Nat.le_refl _) _
  have hb2 := hb1.alloc hb1.size (.cells #[.slice (some ⟨w0.heap.size, 0, none⟩) x x] 32)
  have hmk := owns_made w0 0 3 (zeroInts x) x (Nat.zero_le _) (by unfold maxLen; omega) (zeroInts_size x)
  have hz2 : ((w0.alloc (.cells (zeroInts x) 3)).alloc (.cells #[.slice (some ⟨w0.heap.size, 0, none⟩) x x] 32)).heap.size = w0.heap.size + 2 := by simp
  have hmk2 := owns_chg hmk (Chg.of_below (S := fun _ => False) ((Below.refl _ _).alloc (Nat.le_refl _) (.cells #[.slice (some ⟨w0.heap.size, 0, none⟩) x x] 32))) (fun _ _ e => e)
  generalize ((w0.alloc (.cells (zeroInts x) 3)).alloc (.cells #[.slice (some ⟨w0.heap.size, 0, none⟩) x x] 32)) = Y at *
  have hCY : Chg (rowB (P 1)) w0 w3 := (Chg.of_below hb2).trans hC (fun _ e => .inl e)
  have hC0 : Chg (fun k => rowB (P 1) k ∨ k = G) w0 (w3.setCell ⟨G, 8, none⟩ (.slice p' (s.nR + 1) cap')) := (hCY.mono fun _ e => .inl e).set (p := ⟨G, 8, none⟩) (.inl (.inr rfl)) _
  have hlt0 : ∀ k, rowB (P 1) k → k < w0.heap.size := fun k hk => h.lt 1 k hk
  have hp'G : ¬ rowB p' G := fun e => by
    rcases hR G e with e | e
    · exact h.ag 1 e
    · have := h.ltG; omega
  have hnew : ∀ k, rowB p' k → rowB (P 1) k ∨ w0.heap.size + 2 ≤ k := fun k hk => by rw [← hz2]; exact hR k hk
  have hmk3 : (w3.setCell ⟨G, 8, none⟩ (.slice p' (s.nR + 1) cap')).ownsRow 0 3 1 (.slice (some ⟨w0.heap.size, 0, none⟩) x x) x (zeroInts x).toList := by
    refine owns_chg hmk2 (S := fun k => rowB (P 1) k ∨ k = G) ((hC.mono fun _ e => .inl e).set (p := ⟨G, 8, none⟩) (.inl (.inr rfl)) _) (fun g hg => ?_)
    obtain rfl : w0.heap.size = g := by simpa [rowB] using hg
    rintro (e | e)
    · have := hlt0 _ e; omega
    · have := h.ltG; omega
  have hoth : ∀ j, j ≠ 1 → ∀ g, rowB (P j) g → ¬ (rowB (P 1) g ∨ g = G) := fun j hj g hg e => by
    rcases e with e | e
    · exact h.ap j 1 g hj hg e
    · subst e; exact h.ag j hg
  have a0 : addQ P s.nR p' w0.heap.size 1 = p' := rfl
  have aN : addQ P s.nR p' w0.heap.size (4 + 2 * s.nR) = some ⟨w0.heap.size, 0, none⟩ := by unfold addQ; rw [if_neg (by omega), if_pos rfl]
  have aO : ∀ j, j ≠ 1 → j ≠ 4 + 2 * s.nR → addQ P s.nR p' w0.heap.size j = P j := fun j h1 h2 => by simp [addQ, h1, h2]
  have k0 : addJ K s.nR cap' x 1 = cap' := rfl
  have kN : addJ K s.nR cap' x (4 + 2 * s.nR) = x := by unfold addJ; rw [if_neg (by omega), if_pos rfl]
  have kO : ∀ j, j ≠ 1 → j ≠ 4 + 2 * s.nR → addJ K s.nR cap' x j = K j := fun j h1 h2 => by simp [addJ, h1, h2]
  have hsz : w0.heap.size + 2 ≤ (w3.setCell ⟨G, 8, none⟩ (.slice p' (s.nR + 1) cap')).heap.size := by
    rw [Row.size_setCell, ← hz2]; exact hC.size
  have hblk : ∀ j k, rowB (addQ P s.nR p' w0.heap.size j) k → (j = 1 ∧ (rowB (P 1) k ∨ w0.heap.size + 2 ≤ k)) ∨ (j = 4 + 2 * s.nR ∧ k = w0.heap.size) ∨ (j ≠ 1 ∧ j ≠ 4 + 2 * s.nR ∧ rowB (P j) k) := fun j k hk => by
    by_cases h1 : j = 1
    · subst h1; exact .inl ⟨rfl, hnew k hk⟩
    · by_cases h2 : j = 4 + 2 * s.nR
      · subst h2; rw [aN] at hk; cases hk; exact .inr (.inl ⟨rfl, rfl⟩)
      · rw [aO j h1 h2] at hk; exact .inr (.inr ⟨h1, h2, hk⟩)
  refine ⟨⟨?_, ?_, ?_, ?_, ?_, ?_, ?_, ?_, ?_, ?_, ?_⟩, ?_, ?_⟩
  · intro j v hv
    have hj : j < 7 := (List.getElem?_eq_some_iff.1 hv).1
    rw [Row.other (by intro e; cases e; omega)]
    exact (hCY.cell (p := ⟨G, j, none⟩) h.ltG (h.ag 1)).trans (h.cf j v hv)
  · rw [aO 0 (by omega) (by omega), kO 0 (by omega) (by omega), Row.other (by intro e; cases e)]
    exact (hCY.cell (p := ⟨G, 7, none⟩) h.ltG (h.ag 1)).trans h.o
  · rw [a0, k0]
    exact Row.same ((hCY.cell (p := ⟨G, 8, none⟩) h.ltG (h.ag 1)).trans h.r)
  · rw [aO 2 (by omega) (by omega), kO 2 (by omega) (by omega), GSt.addR_old _ _ (by omega), Row.other (by intro e; cases e)]
    exact (hCY.cell (p := ⟨G, 9, none⟩) h.ltG (h.ag 1)).trans h.c
  · intro j
    rw [frozen_set]
    exact (hCY.frozen (p := ⟨G, j, none⟩) h.ltG (h.ag 1)).trans (h.fz j)
  · rw [aO 0 (by omega) (by omega), kO 0 (by omega) (by omega)]
    have e1 : (s.addR x).nO = s.nO := rfl
    have hv : valsR (addQ P s.nR p' w0.heap.size) (addJ K s.nR cap' x) (s.addR x).E fO s.nO = valsR P K s.E fO s.nO := by
      unfold valsR
      refine List.map_congr_left fun i hi => ?_
      unfold fO
      rw [aO _ (by omega) (by omega), kO _ (by omega) (by omega), GSt.addR_old _ _ (by omega)]
    rw [e1, hv]
    exact owns_chg h.oO hC0 (hoth 0 (by omega))
  · rw [a0, k0]
    show World.ownsRow _ 0 _ 1 (.slice p' (s.nR + 1) cap') (s.nR + 1) _
    have hv : valsR (addQ P s.nR p' w0.heap.size) (addJ K s.nR cap' x) (s.addR x).E fR (s.nR + 1) = valsR P K s.E fR s.nR ++ [.slice (some ⟨w0.heap.size, 0, none⟩) x x] := by
      unfold valsR
      rw [List.range_succ, List.map_append]
      congr 1
      · refine List.map_congr_left fun i hi => ?_
        have := List.mem_range.1 hi
        unfold fR
        rw [aO _ (by omega) (by omega), kO _ (by omega) (by omega), GSt.addR_old _ _ (by omega)]
      · simp only [List.map_cons, List.map_nil, fR, aN, kN, GSt.addR_new, List.length_replicate]
    have e1 : (s.addR x).nR = s.nR + 1 := rfl
    rw [e1, hv]
    exact owns_chg hown (S := fun k => k = G) ((Chg.refl (fun k => k = G) w3).set (p := ⟨G, 8, none⟩) (.inl rfl) _) (fun g hg e => by subst e; exact hp'G hg)
  · intro j hj
    by_cases h2 : j = 4 + 2 * s.nR
    · subst h2
      rw [aN, kN, GSt.addR_new, ← zeroInts_list]
      simpa using hmk3
    · have hj0 : j ≠ 1 := by
        rintro rfl
        rcases hj with h | ⟨i, _, h⟩ | ⟨i, _, h⟩ <;> omega
      rw [aO j hj0 h2, kO j hj0 h2, GSt.addR_old _ _ h2]
      have hV : s.V j := by
        rcases hj with h | ⟨i, hi, h⟩ | ⟨i, hi, h⟩
        · exact .inl h
        · exact .inr (.inl ⟨i, hi, h⟩)
        · exact .inr (.inr ⟨i, by have : i < s.nR + 1 := hi; omega, h⟩)
      exact owns_chg (h.e j hV) hC0 (hoth j hj0)
  · intro i j k hij hi hj
    have hi1 := hblk i k hi
    have hj1 := hblk j k hj
    clear hi hj
    rcases hi1 with ⟨i1, i2⟩ | ⟨i1, i2⟩ | ⟨i1, i2, i3⟩ <;> rcases hj1 with ⟨j1, j2⟩ | ⟨j1, j2⟩ | ⟨j1, j2, j3⟩
    · omega
    · rcases i2 with i2 | i2
      · have := hlt0 _ i2; omega
      · omega
    · rcases i2 with i2 | i2
      · exact h.ap 1 j k (fun e => j1 e.symm) i2 j3
      · have := h.lt j k j3; omega
    · rcases j2 with j2 | j2
      · have := hlt0 _ j2; omega
      · omega
    · omega
    · have := h.lt _ _ j3; omega
    · rcases j2 with j2 | j2
      · exact h.ap i 1 k i1 i3 j2
      · have := h.lt i k i3; omega
    · have := h.lt _ _ i3; omega
    · exact h.ap i j k hij i3 j3
  · intro j hj
    rcases hblk j G hj with ⟨_, hj | hj⟩ | ⟨_, hj⟩ | ⟨_, _, hj⟩
    · exact h.ag 1 hj
    · have := h.ltG; omega
    · have := h.ltG; omega
    · exact h.ag j hj
  · intro j k hk
    have hz : w0.heap.size ≤ (w3.setCell ⟨G, 8, none⟩ (.slice p' (s.nR + 1) cap')).heap.size := by omega
    by_cases h1 : j = 1
    · subst h1
      rw [Row.size_setCell]
      exact (owns_lt hown hk).2
    · rcases hblk j k hk with ⟨h2, _⟩ | ⟨_, rfl⟩ | ⟨_, _, hj⟩
      · exact absurd h2 h1
      · omega
      · exact Nat.lt_of_lt_of_le (h.lt j k hj) hz
  · exact hC0.mono fun k hk => hk.elim (fun e => .inr ⟨1, e⟩) (fun e => .inl e)
  · rintro k (rfl | ⟨j, hj⟩)
    · exact .inl (.inl rfl)
    · rcases hblk j k hj with ⟨_, hj | hj⟩ | ⟨_, rfl⟩ | ⟨_, _, hj⟩
      · exact .inl (.inr ⟨1, hj⟩)
      · exact .inr (by omega)
      · exact .inr (Nat.le_refl _)
      · exact .inl (.inr ⟨j, hj⟩)

end Go.Proofs.YtcdnbheoelnghaaDoor.Gra
