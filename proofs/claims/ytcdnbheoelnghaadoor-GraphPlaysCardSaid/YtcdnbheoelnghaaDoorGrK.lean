/-
  The deed alloc.
-/
import Derived.Test.YtcdnbheoelnghaaDoorGrJ
import Derived.Deep.RegionWith
import Derived.BigQuiet
namespace Go.Proofs.YtcdnbheoelnghaaDoor.Gra
open Go.RowKit Go.Proofs.YtcdnbheoelnghaaDoor.Opr
open Go.Proofs.YtcdnbheoelnghaaDoor.Row (rowB rowB_none Chg owns_chg owns_cell owns_lt owns_block owns_slice owns_cap cellsZ cellsZ_length cellsZ_at push_row step_append_own info_parts one_at infoInt)

theorem infoRow : (Tryd.prog.info? 32).map (fun i => (i.zero, i.size, i.bytes)) = some (some (.slice none 0 0), 1, 24) := by kernel_rfl
/-- Cells that are all 0. -/
def zeroInts (n : Nat) : Array Value := madeCells #[.int .i64 0] n
theorem zeroInts_list (n : Nat) : (zeroInts n).toList = cellsZ (List.replicate n 0) := by
  unfold zeroInts
  rw [toList_madeCells_one]
  simp [cellsZ]
theorem zeroInts_size (n : Nat) : (zeroInts n).size = n := by
  have := congrArg List.length (zeroInts_list n)
  simpa [cellsZ] using this
theorem make_ints (n : Nat) (h : n ≤ 1048576) (W : World) :
    (Instr.makeSlice 32 (.int .i64 (n : Int)) (.int .i64 (n : Int))).run Tryd.prog W = .ok (.slice (some ⟨W.heap.size, 0, none⟩) n n) (W.alloc (.cells (zeroInts n) 3)) := by
  obtain ⟨i, hi, hz, hs, hb⟩ := info_parts infoInt
  have hr := run_make (P := Tryd.prog) W 32 3 i (.int .i64 0) Tryd.underlying32 hi hz .i64 .i64 n n (by omega) (by omega) (by rw [hb]; omega) (by omega)
  simp only [Int.toNat_natCast, hs, Nat.mul_one] at hr
  exact hr

theorem frozen_set (w : World) (a b : Addr) (v : Value) : (w.setCell a v).frozen? b = w.frozen? b := by simp
/-- An object more. -/
def GSt.add (s : GSt) (x : Nat) : GSt := { nO := s.nO + 1, nR := s.nR, E := fun j => if j = 3 + 2 * s.nO then List.replicate x 0 else s.E j }
theorem GSt.add_new (s : GSt) (x : Nat) : (s.add x).E (3 + 2 * s.nO) = List.replicate x 0 := by simp [GSt.add]
theorem GSt.add_old (s : GSt) (x : Nat) {j : Nat} (h : j ≠ 3 + 2 * s.nO) : (s.add x).E j = s.E j := by simp [GSt.add, h]
theorem Ef.trans' {c : C7} {G : Nat} {P P1 : Nat → Option Addr} {W W1 w' : World} {s' : GSt} (hC : Chg (mine G P) W W1) (hM : ∀ x, mine G P1 x → mine G P x ∨ W.heap.size ≤ x) (h : Ef c G P1 W1 w' s') : Ef c G P W w' s' := by
  obtain ⟨P', K', h1, h2, h3⟩ := h
  have hs := hC.size
  refine ⟨P', K', h1, hC.trans h2 hM, fun x hx => ?_⟩
  rcases h3 x hx with h | h
  · exact hM x h
  · exact .inr (by omega)
def addP (P : Nat → Option Addr) (n : Nat) (p' : Option Addr) (b : Nat) : Nat → Option Addr := fun j => if j = 0 then p' else if j = 3 + 2 * n then some ⟨b, 0, none⟩ else P j
def addK (K : Nat → Nat) (n cap' x : Nat) : Nat → Nat := fun j => if j = 0 then cap' else if j = 3 + 2 * n then x else K j
theorem GIs.add {c : C7} {w0 w3 : World} {G : Nat} {P : Nat → Option Addr} {K : Nat → Nat} {s : GSt} (h : GIs c w0 G P K s) {x cap' : Nat} {p' : Option Addr} (hx : x ≤ 1048576)
    (hown : w3.ownsRow 0 32 1 (.slice p' (s.nO + 1) cap') (s.nO + 1) (valsR P K s.E fO s.nO ++ [.slice (some ⟨w0.heap.size, 0, none⟩) x x]))
    (hC : Chg (rowB (P 0)) ((w0.alloc (.cells (zeroInts x) 3)).alloc (.cells #[.slice (some ⟨w0.heap.size, 0, none⟩) x x] 32)) w3)
    (hR : ∀ k, rowB p' k → rowB (P 0) k ∨ ((w0.alloc (.cells (zeroInts x) 3)).alloc (.cells #[.slice (some ⟨w0.heap.size, 0, none⟩) x x] 32)).heap.size ≤ k) :
    GIs c (w3.setCell ⟨G, 7, none⟩ (.slice p' (s.nO + 1) cap')) G (addP P s.nO p' w0.heap.size) (addK K s.nO cap' x) (s.add x) ∧ Chg (mine G P) w0 (w3.setCell ⟨G, 7, none⟩ (.slice p' (s.nO + 1) cap')) ∧ ∀ k, mine G (addP P s.nO p' w0.heap.size) k → mine G P k ∨ w0.heap.size ≤ k := by
  have hb1 : Below w0.heap.size w0 (w0.alloc (.cells (zeroInts x) 3)) := (Below.refl _ w0).alloc (Nat.le_refl _) _
  have hb2 := hb1.alloc hb1.size (.cells #[.slice (some ⟨w0.heap.size, 0, none⟩) x x] 32)
  have hmk := owns_made w0 0 3 (zeroInts x) x (Nat.zero_le _) (by unfold maxLen; omega) (zeroInts_size x)
  have hz2 : ((w0.alloc (.cells (zeroInts x) 3)).alloc (.cells #[.slice (some ⟨w0.heap.size, 0, none⟩) x x] 32)).heap.size = w0.heap.size + 2 := by simp
  have hmk2 := owns_chg hmk (Chg.of_below (S := fun _ => False) ((Below.refl _ _).alloc (Nat.le_refl _) (.cells #[.slice (some ⟨w0.heap.size, 0, none⟩) x x] 32))) (fun _ _ e => e)
  generalize ((w0.alloc (.cells (zeroInts x) 3)).alloc (.cells #[.slice (some ⟨w0.heap.size, 0, none⟩) x x] 32)) = Y at *
  have hCY : Chg (rowB (P 0)) w0 w3 := (Chg.of_below hb2).trans hC (fun _ e => .inl e)
  have hC0 : Chg (fun k => rowB (P 0) k ∨ k = G) w0 (w3.setCell ⟨G, 7, none⟩ (.slice p' (s.nO + 1) cap')) := (hCY.mono fun _ e => .inl e).set (p := ⟨G, 7, none⟩) (.inl (.inr rfl)) _
  have hlt0 : ∀ k, rowB (P 0) k → k < w0.heap.size := fun k hk => h.lt 0 k hk
  have hp'G : ¬ rowB p' G := fun e => by
    rcases hR G e with e | e
    · exact h.ag 0 e
    · have := h.ltG; omega
  have hnew : ∀ k, rowB p' k → rowB (P 0) k ∨ w0.heap.size + 2 ≤ k := fun k hk => by rw [← hz2]; exact hR k hk
  have hmk3 : (w3.setCell ⟨G, 7, none⟩ (.slice p' (s.nO + 1) cap')).ownsRow 0 3 1 (.slice (some ⟨w0.heap.size, 0, none⟩) x x) x (zeroInts x).toList := by
    refine owns_chg hmk2 (S := fun k => rowB (P 0) k ∨ k = G) ((hC.mono fun _ e => .inl e).set (p := ⟨G, 7, none⟩) (.inl (.inr rfl)) _) (fun g hg => ?_)
    obtain rfl : w0.heap.size = g := by simpa [rowB] using hg
    rintro (e | e)
    · have := hlt0 _ e; omega
    · have := h.ltG; omega
  have hoth : ∀ j, j ≠ 0 → ∀ g, rowB (P j) g → ¬ (rowB (P 0) g ∨ g = G) := fun j hj g hg e => by
    rcases e with e | e
    · exact h.ap j 0 g hj hg e
    · subst e; exact h.ag j hg
  have a0 : addP P s.nO p' w0.heap.size 0 = p' := rfl
  have aN : addP P s.nO p' w0.heap.size (3 + 2 * s.nO) = some ⟨w0.heap.size, 0, none⟩ := by simp [addP]
  have aO : ∀ j, j ≠ 0 → j ≠ 3 + 2 * s.nO → addP P s.nO p' w0.heap.size j = P j := fun j h1 h2 => by simp [addP, h1, h2]
  have k0 : addK K s.nO cap' x 0 = cap' := rfl
  have kN : addK K s.nO cap' x (3 + 2 * s.nO) = x := by simp [addK]
  have kO : ∀ j, j ≠ 0 → j ≠ 3 + 2 * s.nO → addK K s.nO cap' x j = K j := fun j h1 h2 => by simp [addK, h1, h2]
  have hsz : w0.heap.size + 2 ≤ (w3.setCell ⟨G, 7, none⟩ (.slice p' (s.nO + 1) cap')).heap.size := by
    rw [Row.size_setCell, ← hz2]; exact hC.size
  have hblk : ∀ j k, rowB (addP P s.nO p' w0.heap.size j) k → (j = 0 ∧ (rowB (P 0) k ∨ w0.heap.size + 2 ≤ k)) ∨ (j = 3 + 2 * s.nO ∧ k = w0.heap.size) ∨ (j ≠ 0 ∧ j ≠ 3 + 2 * s.nO ∧ rowB (P j) k) := fun j k hk => by
    by_cases h1 : j = 0
    · subst h1; exact .inl ⟨rfl, hnew k hk⟩
    · by_cases h2 : j = 3 + 2 * s.nO
      · subst h2; rw [aN] at hk; cases hk; exact .inr (.inl ⟨rfl, rfl⟩)
      · rw [aO j h1 h2] at hk; exact .inr (.inr ⟨h1, h2, hk⟩)
  refine ⟨⟨?_, ?_, ?_, ?_, ?_, ?_, ?_, ?_, ?_, ?_, ?_⟩, ?_, ?_⟩
  · intro j v hv
    have hj : j < 7 := (List.getElem?_eq_some_iff.1 hv).1
    rw [Row.other (by intro e; cases e; omega)]
    exact (hCY.cell (p := ⟨G, j, none⟩) h.ltG (h.ag 0)).trans (h.cf j v hv)
  · rw [a0, k0]
    exact Row.same ((hCY.cell (p := ⟨G, 7, none⟩) h.ltG (h.ag 0)).trans h.o)
  · rw [aO 1 (by omega) (by omega), kO 1 (by omega) (by omega), Row.other (by intro e; cases e)]
    exact (hCY.cell (p := ⟨G, 8, none⟩) h.ltG (h.ag 0)).trans h.r
  · rw [aO 2 (by omega) (by omega), kO 2 (by omega) (by omega), GSt.add_old _ _ (by omega), Row.other (by intro e; cases e)]
    exact (hCY.cell (p := ⟨G, 9, none⟩) h.ltG (h.ag 0)).trans h.c
  · intro j
    rw [frozen_set]
    exact (hCY.frozen (p := ⟨G, j, none⟩) h.ltG (h.ag 0)).trans (h.fz j)
  · rw [a0, k0]
    show World.ownsRow _ 0 _ 1 (.slice p' (s.nO + 1) cap') (s.nO + 1) _
    have hv : valsR (addP P s.nO p' w0.heap.size) (addK K s.nO cap' x) (s.add x).E fO (s.nO + 1) = valsR P K s.E fO s.nO ++ [.slice (some ⟨w0.heap.size, 0, none⟩) x x] := by
      unfold valsR
      rw [List.range_succ, List.map_append]
      congr 1
      · refine List.map_congr_left fun i hi => ?_
        have := List.mem_range.1 hi
        unfold fO
        rw [aO _ (by omega) (by omega), kO _ (by omega) (by omega), GSt.add_old _ _ (by omega)]
      · simp only [List.map_cons, List.map_nil, fO, aN, kN, GSt.add_new, List.length_replicate]
    have e1 : (s.add x).nO = s.nO + 1 := rfl
    rw [e1, hv]
    exact owns_chg hown (S := fun k => k = G) ((Chg.refl (fun k => k = G) w3).set (p := ⟨G, 7, none⟩) (.inl rfl) _) (fun g hg e => by subst e; exact hp'G hg)
  · rw [aO 1 (by omega) (by omega), kO 1 (by omega) (by omega)]
    have e1 : (s.add x).nR = s.nR := rfl
    have hv : valsR (addP P s.nO p' w0.heap.size) (addK K s.nO cap' x) (s.add x).E fR s.nR = valsR P K s.E fR s.nR := by
      unfold valsR
      refine List.map_congr_left fun i hi => ?_
      unfold fR
      rw [aO _ (by omega) (by omega), kO _ (by omega) (by omega), GSt.add_old _ _ (by omega)]
    rw [e1, hv]
    exact owns_chg h.oR hC0 (hoth 1 (by omega))
  · intro j hj
    by_cases h2 : j = 3 + 2 * s.nO
    · subst h2
      rw [aN, kN, GSt.add_new, ← zeroInts_list]
      simpa using hmk3
    · have hj0 : j ≠ 0 := by
        rintro rfl
        rcases hj with h | ⟨i, _, h⟩ | ⟨i, _, h⟩ <;> omega
      rw [aO j hj0 h2, kO j hj0 h2, GSt.add_old _ _ h2]
      have hV : s.V j := by
        rcases hj with h | ⟨i, hi, h⟩ | ⟨i, hi, h⟩
        · exact .inl h
        · exact .inr (.inl ⟨i, by have : i < s.nO + 1 := hi; omega, h⟩)
        · exact .inr (.inr ⟨i, hi, h⟩)
      exact owns_chg (h.e j hV) hC0 (hoth j hj0)
  · intro i j k hij hi hj
    have hi1 := hblk i k hi
    have hj1 := hblk j k hj
    clear hi hj
    rcases hi1 with ⟨i1, i2⟩ | ⟨i1, i2⟩ | ⟨i1, i2, i3⟩ <;> rcases hj1 with ⟨j1, j2⟩ | ⟨j1, j2⟩ | ⟨j1, j2, j3⟩
    · omega
    · rcases i2 with i2 | i2
      · have := hlt0 _ i2; omega
      · omega
    · rcases i2 with i2 | i2
      · exact h.ap 0 j k (fun e => j1 e.symm) i2 j3
      · have := h.lt j k j3; omega
    · rcases j2 with j2 | j2
      · have := hlt0 _ j2; omega
      · omega
    · omega
    · have := h.lt _ _ j3; omega
    · rcases j2 with j2 | j2
      · exact h.ap i 0 k i1 i3 j2
      · have := h.lt i k i3; omega
    · have := h.lt _ _ i3; omega
    · exact h.ap i j k hij i3 j3
  · intro j hj
    rcases hblk j G hj with ⟨_, hj | hj⟩ | ⟨_, hj⟩ | ⟨_, _, hj⟩
    · exact h.ag 0 hj
    · have := h.ltG; omega
    · have := h.ltG; omega
    · exact h.ag j hj
  · intro j k hk
    have hz : w0.heap.size ≤ (w3.setCell ⟨G, 7, none⟩ (.slice p' (s.nO + 1) cap')).heap.size := by omega
    by_cases h1 : j = 0
    · subst h1
      rw [Row.size_setCell]
      exact (owns_lt hown hk).2
    · rcases hblk j k hk with ⟨h2, _⟩ | ⟨_, rfl⟩ | ⟨_, _, hj⟩
      · exact absurd h2 h1
      · omega
      · exact Nat.lt_of_lt_of_le (h.lt j k hj) hz
  · exact hC0.mono fun k hk => hk.elim (fun e => .inr ⟨0, e⟩) (fun e => .inl e)
  · rintro k (rfl | ⟨j, hj⟩)
    · exact .inl (.inl rfl)
    · rcases hblk j k hj with ⟨_, hj | hj⟩ | ⟨_, rfl⟩ | ⟨_, _, hj⟩
      · exact .inl (.inr ⟨0, hj⟩)
      · exact .inr (by omega)
      · exact .inr (Nat.le_refl _)
      · exact .inl (.inr ⟨j, hj⟩)

set_option maxRecDepth 100000 in
set_option maxHeartbeats 4000000 in
theorem alloc_any {c : C7} {W : World} {G : Nat} {P : Nat → Option Addr} {K : Nat → Nat} {s : GSt} (h : GIs c W G P K s) {m a x : Nat} (k cc : Int) (hm : m < s.nR) (hr : a < (s.E (4 + 2 * m)).length) (hx : x ≤ 1048576) (hN : s.nO ≤ 1000000) :
    Calls Tryd.prog 42 #[.pointer (some ⟨G, 0, none⟩), .int .i64 m, .agg #[.int .i64 k, .int .i64 a, .int .i64 x, .int .i64 cc]] W fun e w' => e = .returned (.tuple #[.int .i64 ((s.nO : Int) + 1), .int .i64 0]) ∧ Ef c G P W w' ((s.add x).set (4 + 2 * m) a ((s.nO : Int) + 1)) := by
  have HX := Lib.hid (And.intro hx (And.intro hm hr))
  obtain ⟨w0, hw0⟩ : ∃ w0, W.alloc (.cells #[.int .i64 k, .int .i64 a, .int .i64 x, .int .i64 cc] 39) = w0 := ⟨_, rfl⟩
  have HA : Hid (Below W.heap.size W w0) := Lib.hid (by rw [← hw0]; exact (Below.refl _ _).alloc (Nat.le_refl _) _)
  have hO : CellsAt w0 W.heap.size [.int .i64 k, .int .i64 a, .int .i64 x, .int .i64 cc] := by rw [← hw0]; exact CellsAt.new _ _ _
  have o1 := hO 1 _ rfl
  have o2 := hO 2 _ rfl
  have h0 := h.later HA.out
  have H0 := Lib.hid h0
  have g7 := h0.o
  have f7 := h0.fz 7
  have hl7 : G < w0.heap.size := h0.ltG
  have hown := Lib.hid h0.oO
  have hmk := make_ints x hx
  obtain ⟨i0, hinf, hz0, hz1, hz2⟩ := info_parts infoRow
  have HFIN : Hid (∀ w3 p' cap', w3.ownsRow 0 32 1 (.slice p' (s.nO + 1) cap') (s.nO + 1) (valsR P K s.E fO s.nO ++ [.slice (some ⟨w0.heap.size, 0, none⟩) x x]) → Chg (rowB (P 0)) ((w0.alloc (.cells (zeroInts x) 3)).alloc (.cells #[.slice (some ⟨w0.heap.size, 0, none⟩) x x] 32)) w3 →
      (∀ k, rowB p' k → rowB (P 0) k ∨ ((w0.alloc (.cells (zeroInts x) 3)).alloc (.cells #[.slice (some ⟨w0.heap.size, 0, none⟩) x x] 32)).heap.size ≤ k) →
      ∃ P1 K1, GIs c (w3.setCell ⟨G, 7, none⟩ (.slice p' (s.nO + 1) cap')) G P1 K1 (s.add x) ∧ Chg (mine G P) w0 (w3.setCell ⟨G, 7, none⟩ (.slice p' (s.nO + 1) cap')) ∧ ∀ k, mine G P1 k → mine G P k ∨ w0.heap.size ≤ k) :=
    Lib.hid fun w3 p' cap' h1 h2 h3 => ⟨_, _, GIs.add h0 hx h1 h2 h3⟩
  have HNM : Hid (¬ mine G P W.heap.size) := Lib.hid fun e => by have := h.ltM e; omega
  have HO1 := Lib.hid o1
  generalize hp : P 0 = p at *
  generalize hc : K 0 = cap at *
  have hb1 : Below w0.heap.size w0 (w0.alloc (.cells (zeroInts x) 3)) := (Below.refl _ w0).alloc (Nat.le_refl _) _
  have hb2 : Below w0.heap.size w0 ((w0.alloc (.cells (zeroInts x) 3)).alloc (.cells #[.slice (some ⟨w0.heap.size, 0, none⟩) x x] 32)) := hb1.alloc hb1.size _
  have g7a := (hb1.cell (p := ⟨G, 7, none⟩) hl7).trans g7
  have g7b := (hb2.cell (p := ⟨G, 7, none⟩) hl7).trans g7
  have o2a := (hb1.cell (p := ⟨W.heap.size, 2, none⟩) (lt_of_cell o2)).trans o2
  have HOW : Hid (((w0.alloc (.cells (zeroInts x) 3)).alloc (.cells #[.slice (some ⟨w0.heap.size, 0, none⟩) x x] 32)).ownsRow 0 32 1 (.slice p s.nO cap) s.nO (valsR P K s.E fO s.nO)) := Lib.hid (owns_chg hown.out (Chg.of_below (S := fun _ => False) hb2) (fun _ _ e => e))
  have HOW2 : Hid (((w0.alloc (.cells (zeroInts x) 3)).alloc (.cells #[.slice (some ⟨w0.heap.size, 0, none⟩) x x] 32)).drew.ownsRow 0 32 1 (.slice p s.nO cap) s.nO (valsR P K s.E fO s.nO)) := Lib.hid HOW.out
  have HBY : Hid (Below ((w0.alloc (.cells (zeroInts x) 3)).alloc (.cells #[.slice (some ⟨w0.heap.size, 0, none⟩) x x] 32)).heap.size ((w0.alloc (.cells (zeroInts x) 3)).alloc (.cells #[.slice (some ⟨w0.heap.size, 0, none⟩) x x] 32)) ((w0.alloc (.cells (zeroInts x) 3)).alloc (.cells #[.slice (some ⟨w0.heap.size, 0, none⟩) x x] 32)).drew) := Lib.hid (Below.refl _ _).drew
  have HB20 := Lib.hid hb2
  have hpG : ¬ rowB p G := hp ▸ h0.ag 0
  have x0 : (0 : Int) ≤ (x : Int) := by omega
  have nO1 : s.nO + 1 ≤ maxLen := by unfold maxLen; omega
  have nO2 : (s.nO + 1) * 24 ≤ 140737488355328 := by omega
  generalize hvs : valsR P K s.E fO s.nO = vs at *
  generalize hn : s.nO = n at *
  have HNN := Lib.hid hn
  go_enter Tryd.func42, Tryd.ntmps42
  clear hO h h0 hm hr hb1 hb2 hx hN hvs hn hp hc
  go_wp2_with fail
  go_region_law (refine step_append_own rfl (.tmp 12) (.tmp 16) 58 rfl 0 32 i0 (.slice none 0 0) 1 24 Tryd.underlying58 hinf hz0 hz1 hz2 rfl (by decide) (.slice p n cap) n vs rfl (by first | exact HOW2.out | exact HOW.out) ⟨w0.heap.size + 1, 0, none⟩ 1 1 [.slice (some ⟨w0.heap.size, 0, none⟩) x x] rfl rfl (one_at (by simp)) (by simp [Value.oneCell']) nO1 nO2 (by simp) ?_; intro v' w3 hown hgrow hat; obtain ⟨p', cap', rfl, hC, hR⟩ := push_row (Y := (w0.alloc (.cells (zeroInts x) 3)).alloc (.cells #[.slice (some ⟨w0.heap.size, 0, none⟩) x x] 32)) (p := p) (cap := cap) (n := n) HBY.out hown hgrow hat; have hC1 := (Chg.of_below (S := rowB p) HB20.out).trans hC (fun _ e => .inl e); have g7' := (hC1.cell (p := ⟨G, 7, none⟩) hl7 hpG).trans g7; have f7' := (hC1.frozen (p := ⟨G, 7, none⟩) hl7 hpG).trans f7; have HOWN := Lib.hid hown; have HCG := Lib.hid hC; have HRR := Lib.hid hR; have HC1 := Lib.hid hC1; clear hown hgrow hat hC hR hC1)
  all_goals (clear HOW HOW2 HBY HB20 g7 g7a g7b f7 g7' f7' o1 o2 o2a)
  all_goals (obtain ⟨W1, hW1⟩ : ∃ W1, w3.setCell ⟨G, 7, none⟩ (.slice p' (n + 1) cap') = W1 := ⟨_, rfl⟩)
  all_goals (rw [hW1]; have HADD := Lib.hid (HFIN.out w3 p' cap' HOWN.out HCG.out HRR.out); rw [hW1] at HADD; clear HOWN HCG HRR HC1 hW1)
  all_goals (obtain ⟨P1, K1, hadd, hch, hmi⟩ := HADD.out)
  all_goals (have HCT : Hid (∀ V, Below W1.heap.size W1 V → Calls Tryd.prog 11 #[.pointer (some ⟨G, 0, none⟩)] V fun e w' => e = .returned (.int .i64 ((n : Int) + 1)) ∧ w' = V) := Lib.hid fun V hV => (by
    have := count_any G _ _ _ V (hadd.later hV).o
    rw [show (s.add x).nO = s.nO + 1 from rfl, HNN.out] at this
    exact this))
  all_goals (have HTK : Hid (∀ V, Below W1.heap.size W1 V → Calls Tryd.prog 60 #[.pointer (some ⟨G, 0, none⟩), .int .i64 m, .int .i64 a, .int .i64 ((n : Int) + 1)] V fun e w' => e = .returned (.tuple #[.int .i64 ((n : Int) + 1), .int .i64 0]) ∧ Ef c G P W w' ((s.add x).set (4 + 2 * m) a ((n : Int) + 1))) := Lib.hid fun V hV => (take_is (hadd.later hV) (m := m) (r := a) HX.out.2.1 (by rw [GSt.add_old _ _ (by omega)]; exact HX.out.2.2) ((n : Int) + 1)).mono fun e w' h2 => ⟨h2.1, Ef.before HA.out (Ef.trans' hch hmi (Ef.before hV h2.2))⟩)
  all_goals (have O1 : W1.cell? ⟨W.heap.size, 1, none⟩ = some (.int .i64 a) := (hch.cell (p := ⟨W.heap.size, 1, none⟩) (lt_of_cell HO1.out) HNM.out).trans HO1.out)
  all_goals (have HB0 : Hid (Below W1.heap.size W1 W1) := Lib.hid (Below.refl _ _))
  all_goals (have HBD : Hid (Below W1.heap.size W1 W1.drew) := Lib.hid (Below.refl _ _).drew)
  all_goals (clear hadd hch hmi HADD)
  all_goals go_wp2_with fail
  all_goals go_region_with (first
    | (go_at_call 11; refine (HCT.out _ (by first | exact HB0.out | exact HBD.out)).mono ?_; rintro e w8 ⟨rfl, rfl⟩)
    | (go_at_call 60; refine (HTK.out _ (by first | exact HB0.out | exact HBD.out)).mono ?_; rintro e w7 ⟨rfl, hE⟩; have HE := Lib.hid hE; clear hE))
  all_goals go_wp2_with fail
  all_goals go_ret2
  all_goals exact ⟨rfl, HE.out⟩
end Go.Proofs.YtcdnbheoelnghaaDoor.Gra
