/-
  op: numbers, told, Bare.
-/
import Derived.Test.YtenjllknianieaaDoorOpB
import Derived.Deep.RegionWith
namespace Go.Proofs.YtenjllknianieaaDoor.Opr
open Go.RowKit

/-- An operation as it lies. -/
def opV (k a b c : Int) : Value := .agg #[.int .i64 k, .int .i64 a, .int .i64 b, .int .i64 c]

set_option maxRecDepth 100000 in
set_option maxHeartbeats 2000000 in
theorem numbers_any (k a b c : Int) (w : World) (ht : FormTab w) :
    Calls Tryd.prog 47 #[.agg #[.int .i64 k, .int .i64 a, .int .i64 b, .int .i64 c]] w fun e w' => ∃ N, w.heap.size ≤ N ∧ e = .returned (.slice (some ⟨N, 0, none⟩) (usesI k) 3) ∧
      w'.cell? ⟨N, 0, none⟩ = some (.int .i64 a) ∧ w'.cell? ⟨N, 1, none⟩ = some (.int .i64 b) ∧ w'.cell? ⟨N, 2, none⟩ = some (.int .i64 c) ∧ Below w.heap.size w w' := by
  have HT := Lib.hid ht
  clear ht
  have hu := usesI_le k
  generalize hU : usesI k = u at hu
  have HU := Lib.hid hU
  clear hU
  have u0 : (0 : Int) ≤ (u : Int) := by omega
  have u3 : (u : Int) ≤ 3 := by omega
  have HF : Hid (∀ W, Below w.heap.size w W → FormTab W) := Lib.hid fun W h => HT.out.later h
  have HUS : Hid (∀ W, Below w.heap.size w W → Calls Tryd.prog 18 #[.int .i64 k] W fun e w' => e = .returned (.int .i64 u) ∧ w' = W) := Lib.hid fun W h => by rw [← HU.out]; exact uses_any k W (HF.out W h)
  have HK2 : Hid (∀ W W', Below w.heap.size w W ∧ W.cell? ⟨w.heap.size, 0, none⟩ = some (.int .i64 k) ∧ W.cell? ⟨w.heap.size, 1, none⟩ = some (.int .i64 a) ∧ W.cell? ⟨w.heap.size, 2, none⟩ = some (.int .i64 b) ∧ W.cell? ⟨w.heap.size, 3, none⟩ = some (.int .i64 c) → Below W.heap.size W W' →
      Below w.heap.size w W' ∧ W'.cell? ⟨w.heap.size, 0, none⟩ = some (.int .i64 k) ∧ W'.cell? ⟨w.heap.size, 1, none⟩ = some (.int .i64 a) ∧ W'.cell? ⟨w.heap.size, 2, none⟩ = some (.int .i64 b) ∧ W'.cell? ⟨w.heap.size, 3, none⟩ = some (.int .i64 c)) := Lib.hid fun W W' ⟨h0, h1, h2, h3, h4⟩ h => by
    have hl : w.heap.size < W.heap.size := lt_of_cell h1
    exact ⟨h0.trans (h.mono h0.size), (h.cell (p := ⟨_, _, none⟩) hl).trans h1, (h.cell (p := ⟨_, _, none⟩) hl).trans h2, (h.cell (p := ⟨_, _, none⟩) hl).trans h3, (h.cell (p := ⟨_, _, none⟩) hl).trans h4⟩
  have HA : Hid (∀ (W : World) (o : Obj), Below W.heap.size W (W.alloc o)) := Lib.hid fun W o => (Below.refl _ _).alloc (Nat.le_refl _) o
  have HAD : Hid (∀ (W : World) (o : Obj), Below W.heap.size W (W.alloc o).drew) := Lib.hid fun W o => below_drewN ((Below.refl _ _).alloc (Nat.le_refl _) o) 1
  have HK0 : Hid (Below w.heap.size w (w.alloc (.cells #[.int .i64 k, .int .i64 a, .int .i64 b, .int .i64 c] 23)).drew ∧ (w.alloc (.cells #[.int .i64 k, .int .i64 a, .int .i64 b, .int .i64 c] 23)).drew.cell? ⟨w.heap.size, 0, none⟩ = some (.int .i64 k) ∧ (w.alloc (.cells #[.int .i64 k, .int .i64 a, .int .i64 b, .int .i64 c] 23)).drew.cell? ⟨w.heap.size, 1, none⟩ = some (.int .i64 a) ∧ (w.alloc (.cells #[.int .i64 k, .int .i64 a, .int .i64 b, .int .i64 c] 23)).drew.cell? ⟨w.heap.size, 2, none⟩ = some (.int .i64 b) ∧ (w.alloc (.cells #[.int .i64 k, .int .i64 a, .int .i64 b, .int .i64 c] 23)).drew.cell? ⟨w.heap.size, 3, none⟩ = some (.int .i64 c)) := Lib.hid ⟨HAD.out _ _, by simp, by simp, by simp, by simp⟩
  go_enter Tryd.func47, Tryd.ntmps47
  go_wp2_with fail
  go_region_held3 (fun W => Below w.heap.size w W ∧ W.cell? ⟨w.heap.size, 0, none⟩ = some (.int .i64 k) ∧ W.cell? ⟨w.heap.size, 1, none⟩ = some (.int .i64 a) ∧ W.cell? ⟨w.heap.size, 2, none⟩ = some (.int .i64 b) ∧ W.cell? ⟨w.heap.size, 3, none⟩ = some (.int .i64 c))
    (first | exact HK0.out | assumption | exact HK2.out _ _ (by assumption) (HAD.out _ _) | exact HK2.out _ _ (by assumption) (HA.out _ _) | exact HK2.out _ _ HK0.out (HAD.out _ _) | exact HK2.out _ _ HK0.out (HA.out _ _))
    (first
      | (go_at_call 18; refine (HUS.out _ (And.left (by assumption))).mono ?_; rintro e w' ⟨rfl, rfl⟩))
  all_goals go_wp2
  all_goals go_ret
  all_goals exact ⟨w.heap.size + 1, by omega, rfl, by simp, by simp, by simp, below_drewN (((Below.refl _ _).alloc (Nat.le_refl _) _).alloc (by simp) _) 1⟩

/-- The number of a place, or 0. -/
def pk (u : Nat) (f : Nat → Int) (p : Nat) : Int := if p < u then f p else 0
theorem pk_yes {u p : Nat} {f : Nat → Int} (h : p < u) : pk u f p = f p := if_pos h
theorem pk_no {u p : Nat} {f : Nat → Int} (h : ¬ p < u) : pk u f p = 0 := if_neg h
/-- What a number of a place is told as. -/
def TellsB (F : Nat) (bx : Addr) (u : Nat) (f : Nat → Int) (B : Nat) (w : World) : Prop :=
  ∀ (p : Nat) (W : World), p < u → Below B w W → Calls Tryd.prog F #[.int .i64 p, .pointer (some bx)] W fun e w' => e = .returned (.int .i64 (f p)) ∧ Below W.heap.size W w'

set_option maxRecDepth 100000 in
set_option maxHeartbeats 2000000 in
/-- told, whatever closure with one box tells the numbers. -/
theorem toldB_any (bx : Addr) (k : Int) (f : Nat → Int) (w : World) (ht : FormTab w) (hf : TellsB 50 bx (usesI k) f w.heap.size w) :
    Calls Tryd.prog 49 #[.int .i64 k, .func (.func 50) #[] #[.pointer (some bx)]] w fun e w' => e = .returned (opV k (pk (usesI k) f 0) (pk (usesI k) f 1) (pk (usesI k) f 2)) ∧ Below w.heap.size w w' := by
  have HT := Lib.hid ht
  have HFn := Lib.hid hf
  clear ht hf
  have hu := usesI_le k
  have HUS : Hid (∀ W, Below w.heap.size w W → Calls Tryd.prog 18 #[.int .i64 k] W fun e w' => e = .returned (.int .i64 (usesI k)) ∧ w' = W) := Lib.hid fun W h => uses_any k W (HT.out.later h)
  generalize usesI k = u at *
  go_enter Tryd.func49, Tryd.ntmps49
  go_wp2_with (go_at_call 18; refine (HUS.out _ (((Below.refl _ _).alloc (Nat.le_refl _) _).alloc (by simp) _)).mono ?_; rintro e w' ⟨rfl, rfl⟩)
  have hB0 : ∀ j, j < 3 → ((w.alloc (Obj.cells #[.int .i64 0, .int .i64 0, .int .i64 0, .int .i64 0] 23)).alloc (Obj.cells #[.int .i64 0, .int .i64 0, .int .i64 0] 79)).cell? ⟨w.heap.size + 1, j, none⟩ = some (.int .i64 0) := by
    intro j hj
    have h3 : j = 0 ∨ j = 1 ∨ j = 2 := by omega
    rcases h3 with rfl | rfl | rfl <;> simp
  have hR0 : ∀ j, j < 4 → ((w.alloc (Obj.cells #[.int .i64 0, .int .i64 0, .int .i64 0, .int .i64 0] 23)).alloc (Obj.cells #[.int .i64 0, .int .i64 0, .int .i64 0] 79)).cell? ⟨w.heap.size, j, none⟩ = some (.int .i64 0) := by
    intro j hj
    have h3 : j = 0 ∨ j = 1 ∨ j = 2 ∨ j = 3 := by omega
    rcases h3 with rfl | rfl | rfl | rfl <;> simp
  have hB0 := Lib.hid hB0
  have hR0 := Lib.hid hR0
  have hF0 : Hid (∀ g j, w.heap.size ≤ g → g < w.heap.size + 2 → ((w.alloc (Obj.cells #[.int .i64 0, .int .i64 0, .int .i64 0, .int .i64 0] 23)).alloc (Obj.cells #[.int .i64 0, .int .i64 0, .int .i64 0] 79)).frozen? ⟨g, j, none⟩ = false) := Lib.hid (by
    intro g j hg hg2
    rcases Nat.lt_or_ge w.heap.size g with h1 | h1
    · obtain rfl : g = w.heap.size + 1 := by omega
      simp
    · obtain rfl : g = w.heap.size := by omega
      simp)
  go_loopw [9] (fun i wr => ∃ p : Nat, p ≤ u ∧ i = .int .i64 p ∧ Below w.heap.size w wr ∧ (∀ j, j < 3 → wr.cell? ⟨w.heap.size + 1, j, none⟩ = some (.int .i64 (pk p f j)) ∧ wr.frozen? ⟨w.heap.size + 1, j, none⟩ = false) ∧
    (∀ j, j < 4 → wr.cell? ⟨w.heap.size, j, none⟩ = some (.int .i64 0) ∧ wr.frozen? ⟨w.heap.size, j, none⟩ = false)) (fun i _ => 3 - (intOf i).toNat)
  case atStart => exact ⟨0, by omega, rfl, ((Below.refl _ _).alloc (Nat.le_refl _) _).alloc (by simp) _, fun j hj => ⟨by rw [pk_no (by omega)]; exact hB0.out j hj, hF0.out _ _ (by omega) (by omega)⟩, fun j hj => ⟨hR0.out j hj, hF0.out _ _ (by omega) (by omega)⟩⟩
  case round =>
    obtain ⟨p, hp, rfl, hb, hc, hr⟩ := hrel
    have HC := Lib.hid hc
    have HR := Lib.hid hr
    have HB := Lib.hid hb
    clear hc hr hb
    have p0 : (0 : Int) ≤ (p : Int) := by omega
    by_cases hlt : p < u
    · have p3 : (p : Int) < 3 := by omega
      have hl1 : w.heap.size + 1 < wr.heap.size := lt_of_cell (HC.out 0 (by omega)).1
      have HCQ : Hid (∀ W, Below wr.heap.size wr W → W.cell? ⟨w.heap.size + 1, p, none⟩ = some (.int .i64 0) ∧ W.frozen? ⟨w.heap.size + 1, p, none⟩ = false) := Lib.hid fun W h => by
        have h1 := (HC.out p (by omega)).1
        rw [pk_no (by omega)] at h1
        exact ⟨(h.cell (p := ⟨w.heap.size + 1, p, none⟩) hl1).trans h1, (h.frozen (p := ⟨w.heap.size + 1, p, none⟩) hl1).trans (HC.out p (by omega)).2⟩
      go_wp2_with (go_at_call 50; refine (HFn.out p _ hlt HB.out).mono ?_; rintro e w3 ⟨rfl, hb3⟩; obtain ⟨hcp, hfp⟩ := HCQ.out _ hb3; have HB3 := Lib.hid hb3; have HCP := Lib.hid hcp; clear hb3)
      go_roundw
      case rel =>
        refine ⟨p + 1, by omega, by go_num, (HB.out.trans (HB3.out.mono HB.out.size)).setCell (by simp) _, fun j hj => ⟨?_, ?_⟩, fun j hj => ⟨?_, ?_⟩⟩
        · by_cases hjp : j = p
          · subst hjp
            rw [World.cell?_setCell_same _ _ _ HCP.out, pk_yes (by omega)]
          · rw [World.cell?_setCell_other _ _ _ _ (by intro e; injection e with _ e2; exact hjp e2.symm), HB3.out.cell (p := ⟨w.heap.size + 1, j, none⟩) hl1, (HC.out j hj).1]
            by_cases h4 : j < p
            · rw [pk_yes h4, pk_yes (by omega)]
            · rw [pk_no h4, pk_no (by omega)]
        · rw [World.frozen?_setCell, HB3.out.frozen (p := ⟨w.heap.size + 1, j, none⟩) hl1, (HC.out j hj).2]
        · rw [World.cell?_setCell_other _ _ _ _ (by intro e; injection e with e1 _; omega), HB3.out.cell (p := ⟨w.heap.size, j, none⟩) (by show w.heap.size < wr.heap.size; omega), (HR.out j hj).1]
        · rw [World.frozen?_setCell, HB3.out.frozen (p := ⟨w.heap.size, j, none⟩) (by show w.heap.size < wr.heap.size; omega), (HR.out j hj).2]
      case measure => simp [intOf]; omega
    · obtain rfl : p = u := by omega
      obtain ⟨c0, _⟩ := HC.out 0 (by omega)
      obtain ⟨c1, _⟩ := HC.out 1 (by omega)
      obtain ⟨c2, _⟩ := HC.out 2 (by omega)
      obtain ⟨r0, f0⟩ := HR.out 0 (by omega)
      obtain ⟨r1, f1⟩ := HR.out 1 (by omega)
      obtain ⟨r2, f2⟩ := HR.out 2 (by omega)
      obtain ⟨r3, f3⟩ := HR.out 3 (by omega)
      go_wp2
      exact bodyPost_ret (v := opV k (pk p f 0) (pk p f 1) (pk p f 2)) (by simp [results, Tryd.results49, go_sem, opV, r0, r1, r2, r3]) rfl ⟨rfl, (((HB.out.setCell (Nat.le_refl _) _).setCell (Nat.le_refl _) _).setCell (Nat.le_refl _) _).setCell (Nat.le_refl _) _⟩
set_option maxRecDepth 100000 in
set_option maxHeartbeats 2000000 in
/-- told, whatever closure with one box tells the numbers. -/
theorem toldP_any (bx : Addr) (k : Int) (f : Nat → Int) (w : World) (ht : FormTab w) (hf : TellsB 53 bx (usesI k) f w.heap.size w) :
    Calls Tryd.prog 49 #[.int .i64 k, .func (.func 53) #[] #[.pointer (some bx)]] w fun e w' => e = .returned (opV k (pk (usesI k) f 0) (pk (usesI k) f 1) (pk (usesI k) f 2)) ∧ Below w.heap.size w w' := by
  have HT := Lib.hid ht
  have HFn := Lib.hid hf
  clear ht hf
  have hu := usesI_le k
  have HUS : Hid (∀ W, Below w.heap.size w W → Calls Tryd.prog 18 #[.int .i64 k] W fun e w' => e = .returned (.int .i64 (usesI k)) ∧ w' = W) := Lib.hid fun W h => uses_any k W (HT.out.later h)
  generalize usesI k = u at *
  go_enter Tryd.func49, Tryd.ntmps49
  go_wp2_with (go_at_call 18; refine (HUS.out _ (((Below.refl _ _).alloc (Nat.le_refl _) _).alloc (by simp) _)).mono ?_; rintro e w' ⟨rfl, rfl⟩)
  have hB0 : ∀ j, j < 3 → ((w.alloc (Obj.cells #[.int .i64 0, .int .i64 0, .int .i64 0, .int .i64 0] 23)).alloc (Obj.cells #[.int .i64 0, .int .i64 0, .int .i64 0] 79)).cell? ⟨w.heap.size + 1, j, none⟩ = some (.int .i64 0) := by
    intro j hj
    have h3 : j = 0 ∨ j = 1 ∨ j = 2 := by omega
    rcases h3 with rfl | rfl | rfl <;> simp
  have hR0 : ∀ j, j < 4 → ((w.alloc (Obj.cells #[.int .i64 0, .int .i64 0, .int .i64 0, .int .i64 0] 23)).alloc (Obj.cells #[.int .i64 0, .int .i64 0, .int .i64 0] 79)).cell? ⟨w.heap.size, j, none⟩ = some (.int .i64 0) := by
    intro j hj
    have h3 : j = 0 ∨ j = 1 ∨ j = 2 ∨ j = 3 := by omega
    rcases h3 with rfl | rfl | rfl | rfl <;> simp
  have hB0 := Lib.hid hB0
  have hR0 := Lib.hid hR0
  have hF0 : Hid (∀ g j, w.heap.size ≤ g → g < w.heap.size + 2 → ((w.alloc (Obj.cells #[.int .i64 0, .int .i64 0, .int .i64 0, .int .i64 0] 23)).alloc (Obj.cells #[.int .i64 0, .int .i64 0, .int .i64 0] 79)).frozen? ⟨g, j, none⟩ = false) := Lib.hid (by
    intro g j hg hg2
    rcases Nat.lt_or_ge w.heap.size g with h1 | h1
    · obtain rfl : g = w.heap.size + 1 := by omega
      simp
    · obtain rfl : g = w.heap.size := by omega
      simp)
  go_loopw [9] (fun i wr => ∃ p : Nat, p ≤ u ∧ i = .int .i64 p ∧ Below w.heap.size w wr ∧ (∀ j, j < 3 → wr.cell? ⟨w.heap.size + 1, j, none⟩ = some (.int .i64 (pk p f j)) ∧ wr.frozen? ⟨w.heap.size + 1, j, none⟩ = false) ∧
    (∀ j, j < 4 → wr.cell? ⟨w.heap.size, j, none⟩ = some (.int .i64 0) ∧ wr.frozen? ⟨w.heap.size, j, none⟩ = false)) (fun i _ => 3 - (intOf i).toNat)
  case atStart => exact ⟨0, by omega, rfl, ((Below.refl _ _).alloc (Nat.le_refl _) _).alloc (by simp) _, fun j hj => ⟨by rw [pk_no (by omega)]; exact hB0.out j hj, hF0.out _ _ (by omega) (by omega)⟩, fun j hj => ⟨hR0.out j hj, hF0.out _ _ (by omega) (by omega)⟩⟩
  case round =>
    obtain ⟨p, hp, rfl, hb, hc, hr⟩ := hrel
    have HC := Lib.hid hc
    have HR := Lib.hid hr
    have HB := Lib.hid hb
    clear hc hr hb
    have p0 : (0 : Int) ≤ (p : Int) := by omega
    by_cases hlt : p < u
    · have p3 : (p : Int) < 3 := by omega
      have hl1 : w.heap.size + 1 < wr.heap.size := lt_of_cell (HC.out 0 (by omega)).1
      have HCQ : Hid (∀ W, Below wr.heap.size wr W → W.cell? ⟨w.heap.size + 1, p, none⟩ = some (.int .i64 0) ∧ W.frozen? ⟨w.heap.size + 1, p, none⟩ = false) := Lib.hid fun W h => by
        have h1 := (HC.out p (by omega)).1
        rw [pk_no (by omega)] at h1
        exact ⟨(h.cell (p := ⟨w.heap.size + 1, p, none⟩) hl1).trans h1, (h.frozen (p := ⟨w.heap.size + 1, p, none⟩) hl1).trans (HC.out p (by omega)).2⟩
      go_wp2_with (go_at_call 53; refine (HFn.out p _ hlt HB.out).mono ?_; rintro e w3 ⟨rfl, hb3⟩; obtain ⟨hcp, hfp⟩ := HCQ.out _ hb3; have HB3 := Lib.hid hb3; have HCP := Lib.hid hcp; clear hb3)
      go_roundw
      case rel =>
        refine ⟨p + 1, by omega, by go_num, (HB.out.trans (HB3.out.mono HB.out.size)).setCell (by simp) _, fun j hj => ⟨?_, ?_⟩, fun j hj => ⟨?_, ?_⟩⟩
        · by_cases hjp : j = p
          · subst hjp
            rw [World.cell?_setCell_same _ _ _ HCP.out, pk_yes (by omega)]
          · rw [World.cell?_setCell_other _ _ _ _ (by intro e; injection e with _ e2; exact hjp e2.symm), HB3.out.cell (p := ⟨w.heap.size + 1, j, none⟩) hl1, (HC.out j hj).1]
            by_cases h4 : j < p
            · rw [pk_yes h4, pk_yes (by omega)]
            · rw [pk_no h4, pk_no (by omega)]
        · rw [World.frozen?_setCell, HB3.out.frozen (p := ⟨w.heap.size + 1, j, none⟩) hl1, (HC.out j hj).2]
        · rw [World.cell?_setCell_other _ _ _ _ (by intro e; injection e with e1 _; omega), HB3.out.cell (p := ⟨w.heap.size, j, none⟩) (by show w.heap.size < wr.heap.size; omega), (HR.out j hj).1]
        · rw [World.frozen?_setCell, HB3.out.frozen (p := ⟨w.heap.size, j, none⟩) (by show w.heap.size < wr.heap.size; omega), (HR.out j hj).2]
      case measure => simp [intOf]; omega
    · obtain rfl : p = u := by omega
      obtain ⟨c0, _⟩ := HC.out 0 (by omega)
      obtain ⟨c1, _⟩ := HC.out 1 (by omega)
      obtain ⟨c2, _⟩ := HC.out 2 (by omega)
      obtain ⟨r0, f0⟩ := HR.out 0 (by omega)
      obtain ⟨r1, f1⟩ := HR.out 1 (by omega)
      obtain ⟨r2, f2⟩ := HR.out 2 (by omega)
      obtain ⟨r3, f3⟩ := HR.out 3 (by omega)
      go_wp2
      exact bodyPost_ret (v := opV k (pk p f 0) (pk p f 1) (pk p f 2)) (by simp [results, Tryd.results49, go_sem, opV, r0, r1, r2, r3]) rfl ⟨rfl, (((HB.out.setCell (Nat.le_refl _) _).setCell (Nat.le_refl _) _).setCell (Nat.le_refl _) _).setCell (Nat.le_refl _) _⟩
end Go.Proofs.YtenjllknianieaaDoor.Opr
