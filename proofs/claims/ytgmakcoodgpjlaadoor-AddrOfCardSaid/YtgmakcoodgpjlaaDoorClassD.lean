/-
  The law ClassOrder answers true, for every argument, wherever the table of sizes lies as it was laid.
-/
import Derived.Test.YtgmakcoodgpjlaaDoorClassC
namespace Go.Proofs.YtgmakcoodgpjlaaDoor.Class
open Go.RowKit

theorem per_mono {x y c : Int} (hc : isB c = true) (x0 : 16 ≤ x) (hxy : x ≤ y) (y1 : y ≤ 256) : perI x c ≤ perI y c := by
  obtain ⟨s0, s1⟩ := sizI_bd hc
  rw [perI_yes hc (wordsB_true.2 ⟨x0, by omega⟩), perI_yes hc (wordsB_true.2 ⟨by omega, y1⟩)]
  exact Int.ediv_le_ediv (by omega) hxy
theorem per_down {x c : Int} (hc : isB c = true) (hd : isB (c + 1) = true) (x0 : 16 ≤ x) (x1 : x ≤ 256) : perI x (c + 1) ≤ perI x c := by
  rw [perI_yes hc (wordsB_true.2 ⟨x0, x1⟩), perI_yes hd (wordsB_true.2 ⟨x0, x1⟩)]
  rw [isB_true] at hc hd
  have : c = 0 ∨ c = 1 ∨ c = 2 := by omega
  rcases this with rfl | rfl | rfl <;> simp [sizI] <;> omega


set_option maxHeartbeats 4000000 in
theorem classOrder_0 (k a b : Nat) (hk : k < 256) (ha : a < 256) (hb : b < 256) (w : World) (ht : SizTab w) (hkc : k % 4 = 0) : Calls Tryd.prog 6 #[.int .u8 k, .int .u8 a, .int .u8 b] w fun e w' => e = .returned (.bool true) ∧ w = w' := by
  have HT := Lib.hid ht
  clear ht
  have hkc' : (k : Int) % 4 = 0 := by omega
  have e0 : sizI 0 = 2 := rfl
  have er : roomI 0 = 1 := rfl
  have p1 := per_mono (c := 0) (x := 16 + (a : Int) % 241) (y := 16 + (b : Int) % 241) rfl (by omega)
  have p2 := per_down (c := 0) (x := 16 + (a : Int) % 241) rfl rfl (by omega) (by omega)
  rw [show (0 : Int) + 1 = 1 from rfl] at p2
  clear hkc
  by_cases hx : 16 + (a : Int) % 241 < 16 + (b : Int) % 241
  · have p1 := p1 (by omega) (by omega)
    go_enter Tryd.func6, Tryd.ntmps6
    go_wp2_with (first
      | (go_at_call 14; refine (size_any _ _ HT.out).mono ?_; rintro e w' ⟨rfl, rfl⟩)
      | (go_at_call 16; refine (room_any _ _ HT.out).mono ?_; rintro e w' ⟨rfl, rfl⟩)
      | (go_at_call 18; refine (per_any _ _ _ HT.out).mono ?_; rintro e w' ⟨rfl, rfl⟩)
      | (go_at_call 17; refine (awake_any _ HT.out).mono ?_; rintro e w' ⟨rfl, rfl⟩))
    go_ret
    exact ⟨rfl, rfl⟩
  · clear p1
    have hx' : 16 + (b : Int) % 241 ≤ 16 + (a : Int) % 241 := by omega
    go_enter Tryd.func6, Tryd.ntmps6
    go_wp2_with (first
      | (go_at_call 14; refine (size_any _ _ HT.out).mono ?_; rintro e w' ⟨rfl, rfl⟩)
      | (go_at_call 16; refine (room_any _ _ HT.out).mono ?_; rintro e w' ⟨rfl, rfl⟩)
      | (go_at_call 18; refine (per_any _ _ _ HT.out).mono ?_; rintro e w' ⟨rfl, rfl⟩)
      | (go_at_call 17; refine (awake_any _ HT.out).mono ?_; rintro e w' ⟨rfl, rfl⟩))
    go_ret
    exact ⟨rfl, rfl⟩

set_option maxHeartbeats 4000000 in
theorem classOrder_1 (k a b : Nat) (hk : k < 256) (ha : a < 256) (hb : b < 256) (w : World) (ht : SizTab w) (hkc : k % 4 = 1) : Calls Tryd.prog 6 #[.int .u8 k, .int .u8 a, .int .u8 b] w fun e w' => e = .returned (.bool true) ∧ w = w' := by
  have HT := Lib.hid ht
  clear ht
  have hkc' : (k : Int) % 4 = 1 := by omega
  have e0 : sizI 0 = 2 := rfl
  have e1 : sizI 1 = 4 := rfl
  have er : roomI 1 = 3 := rfl
  have p1 := per_mono (c := 1) (x := 16 + (a : Int) % 241) (y := 16 + (b : Int) % 241) rfl (by omega)
  have p2 := per_down (c := 1) (x := 16 + (a : Int) % 241) rfl rfl (by omega) (by omega)
  rw [show (1 : Int) + 1 = 2 from rfl] at p2
  clear hkc
  by_cases hx : 16 + (a : Int) % 241 < 16 + (b : Int) % 241
  · have p1 := p1 (by omega) (by omega)
    go_enter Tryd.func6, Tryd.ntmps6
    go_wp2_with (first
      | (go_at_call 14; refine (size_any _ _ HT.out).mono ?_; rintro e w' ⟨rfl, rfl⟩)
      | (go_at_call 16; refine (room_any _ _ HT.out).mono ?_; rintro e w' ⟨rfl, rfl⟩)
      | (go_at_call 18; refine (per_any _ _ _ HT.out).mono ?_; rintro e w' ⟨rfl, rfl⟩)
      | (go_at_call 17; refine (awake_any _ HT.out).mono ?_; rintro e w' ⟨rfl, rfl⟩))
    go_ret
    exact ⟨rfl, rfl⟩
  · clear p1
    have hx' : 16 + (b : Int) % 241 ≤ 16 + (a : Int) % 241 := by omega
    go_enter Tryd.func6, Tryd.ntmps6
    go_wp2_with (first
      | (go_at_call 14; refine (size_any _ _ HT.out).mono ?_; rintro e w' ⟨rfl, rfl⟩)
      | (go_at_call 16; refine (room_any _ _ HT.out).mono ?_; rintro e w' ⟨rfl, rfl⟩)
      | (go_at_call 18; refine (per_any _ _ _ HT.out).mono ?_; rintro e w' ⟨rfl, rfl⟩)
      | (go_at_call 17; refine (awake_any _ HT.out).mono ?_; rintro e w' ⟨rfl, rfl⟩))
    go_ret
    exact ⟨rfl, rfl⟩

set_option maxHeartbeats 4000000 in
theorem classOrder_2 (k a b : Nat) (hk : k < 256) (ha : a < 256) (hb : b < 256) (w : World) (ht : SizTab w) (hkc : k % 4 = 2) : Calls Tryd.prog 6 #[.int .u8 k, .int .u8 a, .int .u8 b] w fun e w' => e = .returned (.bool true) ∧ w = w' := by
  have HT := Lib.hid ht
  clear ht
  have hkc' : (k : Int) % 4 = 2 := by omega
  have e0 : sizI 0 = 2 := rfl
  have e1 : sizI 1 = 4 := rfl
  have e2 : sizI 2 = 8 := rfl
  have er : roomI 2 = 7 := rfl
  have p1 := per_mono (c := 2) (x := 16 + (a : Int) % 241) (y := 16 + (b : Int) % 241) rfl (by omega)
  have p2 := per_down (c := 2) (x := 16 + (a : Int) % 241) rfl rfl (by omega) (by omega)
  rw [show (2 : Int) + 1 = 3 from rfl] at p2
  clear hkc
  by_cases hx : 16 + (a : Int) % 241 < 16 + (b : Int) % 241
  · have p1 := p1 (by omega) (by omega)
    go_enter Tryd.func6, Tryd.ntmps6
    go_wp2_with (first
      | (go_at_call 14; refine (size_any _ _ HT.out).mono ?_; rintro e w' ⟨rfl, rfl⟩)
      | (go_at_call 16; refine (room_any _ _ HT.out).mono ?_; rintro e w' ⟨rfl, rfl⟩)
      | (go_at_call 18; refine (per_any _ _ _ HT.out).mono ?_; rintro e w' ⟨rfl, rfl⟩)
      | (go_at_call 17; refine (awake_any _ HT.out).mono ?_; rintro e w' ⟨rfl, rfl⟩))
    go_ret
    exact ⟨rfl, rfl⟩
  · clear p1
    have hx' : 16 + (b : Int) % 241 ≤ 16 + (a : Int) % 241 := by omega
    go_enter Tryd.func6, Tryd.ntmps6
    go_wp2_with (first
      | (go_at_call 14; refine (size_any _ _ HT.out).mono ?_; rintro e w' ⟨rfl, rfl⟩)
      | (go_at_call 16; refine (room_any _ _ HT.out).mono ?_; rintro e w' ⟨rfl, rfl⟩)
      | (go_at_call 18; refine (per_any _ _ _ HT.out).mono ?_; rintro e w' ⟨rfl, rfl⟩)
      | (go_at_call 17; refine (awake_any _ HT.out).mono ?_; rintro e w' ⟨rfl, rfl⟩))
    go_ret
    exact ⟨rfl, rfl⟩

set_option maxHeartbeats 4000000 in
theorem classOrder_3 (k a b : Nat) (hk : k < 256) (ha : a < 256) (hb : b < 256) (w : World) (ht : SizTab w) (hkc : k % 4 = 3) : Calls Tryd.prog 6 #[.int .u8 k, .int .u8 a, .int .u8 b] w fun e w' => e = .returned (.bool true) ∧ w = w' := by
  have HT := Lib.hid ht
  clear ht
  have hkc' : (k : Int) % 4 = 3 := by omega
  have e0 : sizI 0 = 2 := rfl
  have e2 : sizI 2 = 8 := rfl
  have e3 : sizI 3 = 16 := rfl
  have er : roomI 3 = 15 := rfl
  have p1 := per_mono (c := 3) (x := 16 + (a : Int) % 241) (y := 16 + (b : Int) % 241) rfl (by omega)
  clear hkc
  by_cases hx : 16 + (a : Int) % 241 < 16 + (b : Int) % 241
  · have p1 := p1 (by omega) (by omega)
    go_enter Tryd.func6, Tryd.ntmps6
    go_wp2_with (first
      | (go_at_call 14; refine (size_any _ _ HT.out).mono ?_; rintro e w' ⟨rfl, rfl⟩)
      | (go_at_call 16; refine (room_any _ _ HT.out).mono ?_; rintro e w' ⟨rfl, rfl⟩)
      | (go_at_call 18; refine (per_any _ _ _ HT.out).mono ?_; rintro e w' ⟨rfl, rfl⟩)
      | (go_at_call 17; refine (awake_any _ HT.out).mono ?_; rintro e w' ⟨rfl, rfl⟩))
    go_ret
    exact ⟨rfl, rfl⟩
  · clear p1
    have hx' : 16 + (b : Int) % 241 ≤ 16 + (a : Int) % 241 := by omega
    go_enter Tryd.func6, Tryd.ntmps6
    go_wp2_with (first
      | (go_at_call 14; refine (size_any _ _ HT.out).mono ?_; rintro e w' ⟨rfl, rfl⟩)
      | (go_at_call 16; refine (room_any _ _ HT.out).mono ?_; rintro e w' ⟨rfl, rfl⟩)
      | (go_at_call 18; refine (per_any _ _ _ HT.out).mono ?_; rintro e w' ⟨rfl, rfl⟩)
      | (go_at_call 17; refine (awake_any _ HT.out).mono ?_; rintro e w' ⟨rfl, rfl⟩))
    go_ret
    exact ⟨rfl, rfl⟩

theorem classOrder_any (k a b : Nat) (hk : k < 256) (ha : a < 256) (hb : b < 256) (w : World) (ht : SizTab w) : Calls Tryd.prog 6 #[.int .u8 k, .int .u8 a, .int .u8 b] w fun e w' => e = .returned (.bool true) ∧ Below w.heap.size w w' := by
  have h : k % 4 = 0 ∨ k % 4 = 1 ∨ k % 4 = 2 ∨ k % 4 = 3 := by omega
  rcases h with h | h | h | h
  · exact (classOrder_0 k a b hk ha hb w ht h).mono fun e w' ⟨he, hw⟩ => ⟨he, hw ▸ Below.refl _ _⟩
  · exact (classOrder_1 k a b hk ha hb w ht h).mono fun e w' ⟨he, hw⟩ => ⟨he, hw ▸ Below.refl _ _⟩
  · exact (classOrder_2 k a b hk ha hb w ht h).mono fun e w' ⟨he, hw⟩ => ⟨he, hw ▸ Below.refl _ _⟩
  · exact (classOrder_3 k a b hk ha hb w ht h).mono fun e w' ⟨he, hw⟩ => ⟨he, hw ▸ Below.refl _ _⟩
end Go.Proofs.YtgmakcoodgpjlaaDoor.Class
