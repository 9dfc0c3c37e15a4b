/-
  A graph: has, the calls of one that isn't there.
-/
import Derived.Test.YtadkmidipjlcjaaDoorOpQ
import Derived.WalkMore
namespace Go.Proofs.YtadkmidipjlcjaaDoor.Gra
open Go.RowKit Go.Proofs.YtadkmidipjlcjaaDoor.Opr

theorem hasRows_any (p : Option Addr) (n c : Nat) (i : Int) (w : World) :
    Calls Tryd.prog 29 #[.slice p n c, .int .i64 i] w fun e w' => e = .returned (.bool (decide (0 ≤ i) && decide (i < n))) ∧ w' = w := by
  by_cases h : 0 ≤ i
  · by_cases h2 : i < n
    · have e : (decide (0 ≤ i) && decide (i < (n : Int))) = true := by simp [h, h2]
      rw [e]
      go_enter Tryd.func29, Tryd.ntmps29
      go_wp2
      go_ret
      exact ⟨rfl, rfl⟩
    · have e : (decide (0 ≤ i) && decide (i < (n : Int))) = false := by simp [h2]
      rw [e]
      go_enter Tryd.func29, Tryd.ntmps29
      go_wp2
      go_ret
      exact ⟨rfl, rfl⟩
  · have e : (decide (0 ≤ i) && decide (i < (n : Int))) = false := by simp [h]
    rw [e]
    go_enter Tryd.func29, Tryd.ntmps29
    go_wp2
    go_ret
    exact ⟨rfl, rfl⟩
theorem has_any (p : Option Addr) (n c : Nat) (i : Int) (w : World) :
    Calls Tryd.prog 39 #[.slice p n c, .int .i64 i] w fun e w' => e = .returned (.bool (decide (0 ≤ i) && decide (i < n))) ∧ w' = w := by
  by_cases h : 0 ≤ i
  · by_cases h2 : i < n
    · have e : (decide (0 ≤ i) && decide (i < (n : Int))) = true := by simp [h, h2]
      rw [e]
      go_enter Tryd.func39, Tryd.ntmps39
      go_wp2
      go_ret
      exact ⟨rfl, rfl⟩
    · have e : (decide (0 ≤ i) && decide (i < (n : Int))) = false := by simp [h2]
      rw [e]
      go_enter Tryd.func39, Tryd.ntmps39
      go_wp2
      go_ret
      exact ⟨rfl, rfl⟩
  · have e : (decide (0 ≤ i) && decide (i < (n : Int))) = false := by simp [h]
    rw [e]
    go_enter Tryd.func39, Tryd.ntmps39
    go_wp2
    go_ret
    exact ⟨rfl, rfl⟩

/-! None. -/
theorem nilDo_any (n k a x c : Int) (w : World) :
    Calls Tryd.prog 12 #[.pointer none, .int .i64 n, .agg #[.int .i64 k, .int .i64 a, .int .i64 x, .int .i64 c]] w fun e w' => e = .returned (.tuple #[.int .i64 0, .int .i64 11]) ∧ Below w.heap.size w w' := by
  have hA : Below w.heap.size w (w.alloc (.cells #[.int .i64 k, .int .i64 a, .int .i64 x, .int .i64 c] 39)) := (Below.refl _ _).alloc (Nat.le_refl _) _
  have HA := Lib.hid hA
  clear hA
  go_enter Tryd.func12, Tryd.ntmps12
  go_wp2_with fail
  go_ret2
  exact ⟨rfl, HA.out⟩
theorem nilReg_any (n r : Int) (w : World) :
    Calls Tryd.prog 20 #[.pointer none, .int .i64 n, .int .i64 r] w fun e w' => e = .returned (.int .i64 0) ∧ w' = w := by
  go_enter Tryd.func20, Tryd.ntmps20
  go_wp2_with fail
  go_ret
  exact ⟨rfl, rfl⟩
theorem nilCell_any (n : Int) (w : World) :
    Calls Tryd.prog 22 #[.pointer none, .int .i64 n] w fun e w' => e = .returned (.int .i64 0) ∧ w' = w := by
  go_enter Tryd.func22, Tryd.ntmps22
  go_wp2_with fail
  go_ret
  exact ⟨rfl, rfl⟩
theorem nilCount_any (w : World) :
    Calls Tryd.prog 14 #[.pointer none] w fun e w' => e = .returned (.int .i64 0) ∧ w' = w := by
  go_enter Tryd.func14, Tryd.ntmps14
  go_wp2_with fail
  go_ret
  exact ⟨rfl, rfl⟩
theorem nilRoots_any (w : World) :
    Calls Tryd.prog 16 #[.pointer none] w fun e w' => e = .returned (.slice none 0 0) ∧ w' = w := by
  go_enter Tryd.func16, Tryd.ntmps16
  go_wp2_with fail
  go_ret
  exact ⟨rfl, rfl⟩
theorem nilCopy_any (w : World) :
    Calls Tryd.prog 24 #[.pointer none] w fun e w' => e = .returned (.pointer none) ∧ w' = w := by
  go_enter Tryd.func24, Tryd.ntmps24
  go_wp2_with fail
  go_ret
  exact ⟨rfl, rfl⟩
theorem nilFields_any (n : Int) (w : World) :
    Calls Tryd.prog 23 #[.pointer none, .int .i64 n] w fun e w' => e = .returned (.slice none 0 0) ∧ w' = w := by
  by_cases h : n < 1
  · have hd : decide (n < 1) = true := decide_eq_true h
    go_enter Tryd.func23, Tryd.ntmps23
    go_wp2_with fail
    go_ret
    exact ⟨rfl, rfl⟩
  · have h0 : (0 : Int) < n := by omega
    go_enter Tryd.func23, Tryd.ntmps23
    go_wp2_with (go_at_call 14; refine (nilCount_any _).mono ?_; rintro e w9 ⟨rfl, hw9⟩; obtain rfl : w = w9 := hw9.symm)
    go_ret
    exact ⟨rfl, rfl⟩
theorem newBad_any {b wd m r ce lg st : Int} (hr : rightB b wd m r ce lg st = false) (w : World) (hm : LimTab w) :
    Calls Tryd.prog 11 #[.agg #[.int .i64 b, .int .i64 wd, .int .i64 m, .int .i64 r, .int .i64 ce, .int .i64 lg, .int .i64 st]] w fun e w' => e = .returned (.tuple #[.pointer none, .int .i64 1]) ∧ Below w.heap.size w w' := by
  have hA : Below w.heap.size w (w.alloc (.cells #[.int .i64 b, .int .i64 wd, .int .i64 m, .int .i64 r, .int .i64 ce, .int .i64 lg, .int .i64 st] 23)) := (Below.refl _ _).alloc (Nat.le_refl _) _
  have HR := Lib.hid (right_any b wd m r ce lg st _ (hm.later hA))
  have HA := Lib.hid hA
  clear hA
  rw [hr] at HR
  go_enter Tryd.func11, Tryd.ntmps11
  go_wp2_with (go_at_call 28; fail)
  refine HR.out.mono ?_
  rintro e w1 ⟨rfl, hb1⟩
  have HB1 := Lib.hid (HA.out.trans (hb1.mono HA.out.size))
  clear hb1
  go_wp2_with fail
  go_ret2
  exact ⟨rfl, HB1.out⟩

set_option maxRecDepth 100000 in
set_option maxHeartbeats 2000000 in
theorem nilReach_any (w : World) :
    Calls Tryd.prog 18 #[.pointer none] w fun e w' => e = .returned (.slice none 0 0) ∧ Below w.heap.size w w' := by
  obtain ⟨w1, hw1⟩ : ∃ w1, w.alloc (.cells #[.bool false] 4) = w1 := ⟨_, rfl⟩
  have HA : Hid (Below w.heap.size w w1) := Lib.hid (by rw [← hw1]; exact (Below.refl _ _).alloc (Nat.le_refl _) _)
  have HC : Hid (CellsAt w1 w.heap.size [.bool false]) := Lib.hid (by rw [← hw1]; exact CellsAt.new _ _ _)
  have hmk : ∀ W : World, (Instr.makeSlice 78 (.int .i64 1) (.int .i64 1)).run Tryd.prog W = .ok (.slice (some ⟨W.heap.size, 0, none⟩) 1 1) (W.alloc (.cells #[.bool false] 4)) := fun _ => by kernel_rfl
  go_enter Tryd.func18, Tryd.ntmps18
  go_wp2_with fail
  go_step3
  go_wp2_with (first
    | (go_at_call 14; refine (nilCount_any _).mono ?_; rintro e w9 ⟨rfl, hw9⟩; obtain rfl : w = w9 := hw9.symm)
    | (go_at_call 16; refine (nilRoots_any _).mono ?_; rintro e w9 ⟨rfl, hw9⟩; obtain rfl : w1 = w9 := hw9.symm))
  clear hw1
  go_loopw [21] (fun i wr => i = .int .i64 0 ∧ Below w1.heap.size w1 wr) (fun _ _ => 0)
  case atStart => exact ⟨rfl, Below.refl _ _⟩
  case round =>
    obtain ⟨rfl, hb⟩ := hrel
    have HB := Lib.hid hb
    clear hb
    go_wp2_with fail
    go_step3
    go_wp2_with fail
    go_loopw [4] (fun p wr => p = .slice none 0 0 ∧ Below w1.heap.size w1 wr) (fun _ _ => 0)
    case atStart => exact ⟨rfl, HB.out⟩
    case round =>
      obtain ⟨rfl, hb⟩ := hrel
      have HB2 := Lib.hid hb
      clear hb
      go_wp2_with fail
      go_loopw [10, 73] (fun l i wr => l = .slice none 0 0 ∧ (∃ p : Nat, p ≤ 1 ∧ i = .int .i64 p) ∧ Below w1.heap.size w1 wr) (fun _ i _ => 1 - (intOf i).toNat)
      case atStart => exact ⟨rfl, ⟨0, by omega, rfl⟩, HB2.out⟩
      case round =>
        obtain ⟨rfl, ⟨p, hp, rfl⟩, hb⟩ := hrel
        have HB3 := Lib.hid hb
        have c0 := (HC.out.later hb) 0 _ rfl
        clear hb
        by_cases h0 : p = 0
        · subst h0
          go_wp2_with fail
          go_roundw
          case rel => exact ⟨rfl, ⟨1, by omega, by go_num⟩, HB3.out⟩
          case measure => simp [intOf]
        · obtain rfl : p = 1 := by omega
          go_wp2_with fail
          rw [Exit.noGoto_ret]
          go_ret
          exact ⟨rfl, HA.out.trans (HB3.out.mono HA.out.size)⟩
end Go.Proofs.YtadkmidipjlcjaaDoor.Gra
