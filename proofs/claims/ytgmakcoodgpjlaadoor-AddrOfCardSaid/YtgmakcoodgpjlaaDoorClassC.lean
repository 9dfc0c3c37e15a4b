/-
  The laws ClassOf, ClassLeast, ClassOrder answer true, for every argument, wherever the table of sizes lies as it was laid.
-/
import Derived.Test.YtgmakcoodgpjlaaDoorClassB
namespace Go.Proofs.YtgmakcoodgpjlaaDoor.Class
open Go.RowKit

theorem quiet_left {P : Program} {f : FuncId} {args : Array Value} {w : World} {n : Nat} {v : Value}
    (h : Calls P f args (w.drewN n) fun e w' => e = .returned v ∧ w.drewN n = w') : Calls P f args (w.drewN n) fun e w'' => e = .returned v ∧ ∃ m, w'' = w.drewN m :=
  h.mono fun _ _ ⟨he, hm⟩ => ⟨he, n, hm.symm⟩
theorem quiet_add_left {P : Program} {f : FuncId} {args : Array Value} {w : World} {a n : Nat} {v : Value}
    (h : Calls P f args (w.drewN (a + n)) fun e w' => e = .returned v ∧ w.drewN (a + n) = w') :
    Calls P f args (w.drewN (a + n)) fun e w'' => e = .returned v ∧ ∃ m, w'' = w.drewN (a + m) :=
  h.mono fun _ _ ⟨he, hm⟩ => ⟨he, n, hm.symm⟩
theorem below_drewN {B : Nat} {a w : World} (h : Below B a w) (n : Nat) : Below B a (w.drewN n) := ⟨h.os, h.tape, h.output, h.size, h.block⟩

theorem per20_0 : (perI 20 0 == 10) = true := by decide
theorem per20_2 : (perI 20 2 == 2) = true := by decide

set_option maxHeartbeats 1000000 in
theorem awake_any (w : World) (ht : SizTab w) : Calls Tryd.prog 17 #[] w fun e w' => e = .returned (.bool true) ∧ w = w' := by
  have h1 := per20_0
  have h2 := per20_2
  have HT := Lib.hid ht
  clear ht
  go_enter Tryd.func17, Tryd.ntmps17
  go_wp2_with (first
    | (go_at_call 10; refine (of_yes 4 _ HT.out (by decide) (by decide)).mono ?_; rintro e w' ⟨rfl, rfl⟩; rw [show clsI 4 = 2 from rfl])
    | (go_at_call 18; refine (per_any _ _ _ HT.out).mono ?_; rintro e w' ⟨rfl, rfl⟩))
  go_ret
  exact ⟨rfl, rfl⟩

theorem clsI_bd (f : Int) : 0 ≤ clsI f ∧ clsI f ≤ 3 := by unfold clsI; (repeat' split) <;> omega
/-- A class's room, by its size. -/
theorem room_facts (k : Int) : (2 ≤ sizI k ∧ sizI k ≤ 16 ∧ roomI k = sizI k - 1) ∨ (sizI k = 0 ∧ roomI k = 0) := by
  by_cases h : isB k = true
  · exact .inl ⟨(sizI_bd h).1, (sizI_bd h).2, roomI_yes h⟩
  · have h : isB k = false := by simpa using h
    exact .inr ⟨sizI_no h, roomI_no h⟩

set_option maxHeartbeats 2000000 in
theorem classOf_yes (k f : Int) (w : World) (ht : SizTab w) (h0 : 0 ≤ f) (h1 : f ≤ 15) : Calls Tryd.prog 3 #[.int .i64 k, .int .i64 f] w fun e w' => e = .returned (.bool true) ∧ w = w' := by
  have HT := Lib.hid ht
  have hcl := (clsI_bd f).1
  clear ht
  rcases room_facts k with ⟨hs0, hs1, hr⟩ | ⟨hs, hr⟩
  all_goals
    go_enter Tryd.func3, Tryd.ntmps3
    go_wp2_with (first
      | (go_at_call 10; refine (of_yes _ _ HT.out h0 h1).mono ?_; rintro e w' ⟨rfl, rfl⟩)
      | (go_at_call 11; refine (refof_yes _ _ h0 h1).mono ?_; rintro e w' ⟨rfl, rfl⟩)
      | (go_at_call 12; refine (is_any _ _).mono ?_; rintro e w' ⟨rfl, rfl⟩)
      | (go_at_call 13; refine (refis_any _ _).mono ?_; rintro e w' ⟨rfl, rfl⟩)
      | (go_at_call 14; refine (size_any _ _ HT.out).mono ?_; rintro e w' ⟨rfl, rfl⟩)
      | (go_at_call 15; refine (refsize_any _ _).mono ?_; rintro e w' ⟨rfl, rfl⟩)
      | (go_at_call 16; refine (room_any _ _ HT.out).mono ?_; rintro e w' ⟨rfl, rfl⟩)
      | (go_at_call 18; refine (per_any _ _ _ HT.out).mono ?_; rintro e w' ⟨rfl, rfl⟩)
      | (go_at_call 17; refine (awake_any _ HT.out).mono ?_; rintro e w' ⟨rfl, rfl⟩))
    all_goals go_ret
    all_goals exact ⟨rfl, rfl⟩

set_option maxHeartbeats 2000000 in
theorem classOf_no (k f : Int) (w : World) (ht : SizTab w) (h : f < 0 ∨ 15 < f) : Calls Tryd.prog 3 #[.int .i64 k, .int .i64 f] w fun e w' => e = .returned (.bool true) ∧ w = w' := by
  have HT := Lib.hid ht
  clear ht
  rcases room_facts k with ⟨hs0, hs1, hr⟩ | ⟨hs, hr⟩
  all_goals
    go_enter Tryd.func3, Tryd.ntmps3
    go_wp2_with (first
      | (go_at_call 10; refine (of_no _ _ h).mono ?_; rintro e w' ⟨rfl, rfl⟩)
      | (go_at_call 11; refine (refof_no _ _ h).mono ?_; rintro e w' ⟨rfl, rfl⟩)
      | (go_at_call 12; refine (is_any _ _).mono ?_; rintro e w' ⟨rfl, rfl⟩)
      | (go_at_call 13; refine (refis_any _ _).mono ?_; rintro e w' ⟨rfl, rfl⟩)
      | (go_at_call 14; refine (size_any _ _ HT.out).mono ?_; rintro e w' ⟨rfl, rfl⟩)
      | (go_at_call 15; refine (refsize_any _ _).mono ?_; rintro e w' ⟨rfl, rfl⟩)
      | (go_at_call 16; refine (room_any _ _ HT.out).mono ?_; rintro e w' ⟨rfl, rfl⟩)
      | (go_at_call 18; refine (per_any _ _ _ HT.out).mono ?_; rintro e w' ⟨rfl, rfl⟩)
      | (go_at_call 17; refine (awake_any _ HT.out).mono ?_; rintro e w' ⟨rfl, rfl⟩))
    all_goals go_ret
    all_goals exact ⟨rfl, rfl⟩

theorem classOf_any (k f : Int) (w : World) (ht : SizTab w) : Calls Tryd.prog 3 #[.int .i64 k, .int .i64 f] w fun e w' => e = .returned (.bool true) ∧ Below w.heap.size w w' := by
  by_cases h : 0 ≤ f ∧ f ≤ 15
  · exact (classOf_yes k f w ht h.1 h.2).mono fun e w' ⟨he, hw⟩ => ⟨he, hw ▸ Below.refl _ _⟩
  · exact (classOf_no k f w ht (by omega)).mono fun e w' ⟨he, hw⟩ => ⟨he, hw ▸ Below.refl _ _⟩

/-- What ClassLeast asks of a class that there is. -/
theorem least_facts {f : Int} (h0 : 0 ≤ f) (h1 : f ≤ 15) : isB (clsI f) = true ∧ f ≤ roomI (clsI f) ∧ (0 < clsI f → roomI (clsI f - 1) < f) := by
  have hb := clsI_bd f
  refine ⟨isB_true.2 ⟨by omega, by omega⟩, ?_, fun h => ?_⟩
  · rw [roomI_yes (isB_true.2 ⟨by omega, by omega⟩)]
    unfold clsI; (repeat' split) <;> simp [sizI] <;> omega
  · rw [roomI_yes (isB_true.2 ⟨by omega, by omega⟩)]
    unfold clsI at h ⊢; (repeat' split) <;> simp_all [sizI] <;> omega
theorem least_per {f n : Int} (h0 : 0 ≤ f) (h1 : f ≤ 15) (n0 : 16 ≤ n) (n1 : n ≤ 256) : 1 ≤ perI n (clsI f) ∧ perI n (clsI f) ≤ 256 ∧ 0 ≤ perI n (clsI f) * sizI (clsI f) ∧ perI n (clsI f) * sizI (clsI f) ≤ n ∧ n < (perI n (clsI f) + 1) * sizI (clsI f) ∧ (perI n (clsI f) + 1) * sizI (clsI f) ≤ 100000 := by
  have hk := (least_facts h0 h1).1
  obtain ⟨s0, s1⟩ := sizI_bd hk
  rw [perI_yes hk (wordsB_true.2 ⟨n0, n1⟩)]
  have hp : sizI (clsI f) = 2 ∨ sizI (clsI f) = 4 ∨ sizI (clsI f) = 8 ∨ sizI (clsI f) = 16 := by
    unfold clsI; (repeat' split) <;> simp [sizI]
  rcases hp with h | h | h | h <;> rw [h] <;> omega

set_option maxHeartbeats 2000000 in
theorem classLeast_no (f : Int) (u : Int) (w : World) (ht : SizTab w) (h : f < 0 ∨ 15 < f) : Calls Tryd.prog 5 #[.int .i64 f, .int .u8 u] w fun e w' => e = .returned (.bool true) ∧ w = w' := by
  have HT := Lib.hid ht
  clear ht
  have hh := h
  rcases h with h | h
  · go_enter Tryd.func5, Tryd.ntmps5
    go_wp2_with (first
      | (go_at_call 10; refine (of_no _ _ hh).mono ?_; rintro e w' ⟨rfl, rfl⟩)
      | (go_at_call 11; refine (refof_no _ _ hh).mono ?_; rintro e w' ⟨rfl, rfl⟩)
      | (go_at_call 12; refine (is_any _ _).mono ?_; rintro e w' ⟨rfl, rfl⟩)
      | (go_at_call 13; refine (refis_any _ _).mono ?_; rintro e w' ⟨rfl, rfl⟩)
      | (go_at_call 14; refine (size_any _ _ HT.out).mono ?_; rintro e w' ⟨rfl, rfl⟩)
      | (go_at_call 15; refine (refsize_any _ _).mono ?_; rintro e w' ⟨rfl, rfl⟩)
      | (go_at_call 16; refine (room_any _ _ HT.out).mono ?_; rintro e w' ⟨rfl, rfl⟩)
      | (go_at_call 18; refine (per_any _ _ _ HT.out).mono ?_; rintro e w' ⟨rfl, rfl⟩)
      | (go_at_call 17; refine (awake_any _ HT.out).mono ?_; rintro e w' ⟨rfl, rfl⟩))
    all_goals go_ret
    all_goals exact ⟨rfl, rfl⟩
  · have h' : 0 ≤ f := by omega
    go_enter Tryd.func5, Tryd.ntmps5
    go_wp2_with (first
      | (go_at_call 10; refine (of_no _ _ hh).mono ?_; rintro e w' ⟨rfl, rfl⟩)
      | (go_at_call 11; refine (refof_no _ _ hh).mono ?_; rintro e w' ⟨rfl, rfl⟩)
      | (go_at_call 12; refine (is_any _ _).mono ?_; rintro e w' ⟨rfl, rfl⟩)
      | (go_at_call 13; refine (refis_any _ _).mono ?_; rintro e w' ⟨rfl, rfl⟩)
      | (go_at_call 14; refine (size_any _ _ HT.out).mono ?_; rintro e w' ⟨rfl, rfl⟩)
      | (go_at_call 15; refine (refsize_any _ _).mono ?_; rintro e w' ⟨rfl, rfl⟩)
      | (go_at_call 16; refine (room_any _ _ HT.out).mono ?_; rintro e w' ⟨rfl, rfl⟩)
      | (go_at_call 18; refine (per_any _ _ _ HT.out).mono ?_; rintro e w' ⟨rfl, rfl⟩)
      | (go_at_call 17; refine (awake_any _ HT.out).mono ?_; rintro e w' ⟨rfl, rfl⟩))
    all_goals go_ret
    all_goals exact ⟨rfl, rfl⟩

set_option maxHeartbeats 4000000 in
theorem classLeast_yes (f : Int) (u : Nat) (hu : u < 256) (w : World) (ht : SizTab w) (h0 : 0 ≤ f) (h1 : f ≤ 15) : Calls Tryd.prog 5 #[.int .i64 f, .int .u8 u] w fun e w' => e = .returned (.bool true) ∧ w = w' := by
  have HT := Lib.hid ht
  obtain ⟨hk, hr, hl⟩ := least_facts h0 h1
  have HL := Lib.hid hl
  obtain ⟨c0, c1⟩ := clsI_bd f
  obtain ⟨p0, p1, p2, p3, p4, p5⟩ := least_per (n := 16 + (u : Int) % 241) h0 h1 (by omega) (by omega)
  obtain ⟨s0, s1⟩ := sizI_bd hk
  clear ht hl
  by_cases hc : 0 < clsI f
  · have hl := HL.out hc
    go_enter Tryd.func5, Tryd.ntmps5
    go_wp2_with (first
      | (go_at_call 10; refine (of_yes _ _ HT.out h0 h1).mono ?_; rintro e w' ⟨rfl, rfl⟩)
      | (go_at_call 11; refine (refof_yes _ _ h0 h1).mono ?_; rintro e w' ⟨rfl, rfl⟩)
      | (go_at_call 12; refine (is_any _ _).mono ?_; rintro e w' ⟨rfl, rfl⟩)
      | (go_at_call 13; refine (refis_any _ _).mono ?_; rintro e w' ⟨rfl, rfl⟩)
      | (go_at_call 14; refine (size_any _ _ HT.out).mono ?_; rintro e w' ⟨rfl, rfl⟩)
      | (go_at_call 15; refine (refsize_any _ _).mono ?_; rintro e w' ⟨rfl, rfl⟩)
      | (go_at_call 16; refine (room_any _ _ HT.out).mono ?_; rintro e w' ⟨rfl, rfl⟩)
      | (go_at_call 18; refine (per_any _ _ _ HT.out).mono ?_; rintro e w' ⟨rfl, rfl⟩)
      | (go_at_call 17; refine (awake_any _ HT.out).mono ?_; rintro e w' ⟨rfl, rfl⟩))
    all_goals go_ret
    all_goals exact ⟨rfl, rfl⟩
  · have hc' : clsI f ≤ 0 := by omega
    go_enter Tryd.func5, Tryd.ntmps5
    go_wp2_with (first
      | (go_at_call 10; refine (of_yes _ _ HT.out h0 h1).mono ?_; rintro e w' ⟨rfl, rfl⟩)
      | (go_at_call 11; refine (refof_yes _ _ h0 h1).mono ?_; rintro e w' ⟨rfl, rfl⟩)
      | (go_at_call 12; refine (is_any _ _).mono ?_; rintro e w' ⟨rfl, rfl⟩)
      | (go_at_call 13; refine (refis_any _ _).mono ?_; rintro e w' ⟨rfl, rfl⟩)
      | (go_at_call 14; refine (size_any _ _ HT.out).mono ?_; rintro e w' ⟨rfl, rfl⟩)
      | (go_at_call 15; refine (refsize_any _ _).mono ?_; rintro e w' ⟨rfl, rfl⟩)
      | (go_at_call 16; refine (room_any _ _ HT.out).mono ?_; rintro e w' ⟨rfl, rfl⟩)
      | (go_at_call 18; refine (per_any _ _ _ HT.out).mono ?_; rintro e w' ⟨rfl, rfl⟩)
      | (go_at_call 17; refine (awake_any _ HT.out).mono ?_; rintro e w' ⟨rfl, rfl⟩))
    all_goals go_ret
    all_goals exact ⟨rfl, rfl⟩

theorem classLeast_any (f : Int) (u : Nat) (hu : u < 256) (w : World) (ht : SizTab w) : Calls Tryd.prog 5 #[.int .i64 f, .int .u8 u] w fun e w' => e = .returned (.bool true) ∧ Below w.heap.size w w' := by
  by_cases h : 0 ≤ f ∧ f ≤ 15
  · exact (classLeast_yes f u hu w ht h.1 h.2).mono fun e w' ⟨he, hw⟩ => ⟨he, hw ▸ Below.refl _ _⟩
  · exact (classLeast_no f u w ht (by omega)).mono fun e w' ⟨he, hw⟩ => ⟨he, hw ▸ Below.refl _ _⟩
end Go.Proofs.YtgmakcoodgpjlaaDoor.Class
