/-
  The calls of a graph that is not there; deeds; what Do finds wrong.
-/
import Derived.Test.YtcdnbheoelnghaaDoorOpQ
import Derived.WalkMore
import Derived.MapKept
import Derived.BigQuiet
import Derived.Lib.QuietBelow
namespace Go.Proofs.YtcdnbheoelnghaaDoor.Gra
open Go.RowKit Go.Proofs.YtcdnbheoelnghaaDoor.Opr

theorem hasRows_any (p : Option Addr) (n c : Nat) (i : Int) (w : World) :
    Calls Tryd.prog 25 #[.slice p n c, .int .i64 i] w fun e w' => e = .returned (.bool (decide (0 ≤ i) && decide (i < n))) ∧ w' = w := by
  by_cases h : 0 ≤ i
  · by_cases h2 : i < n
    · have e : (decide (0 ≤ i) && decide (i < (n : Int))) = true := by simp [h, h2]
      rw [e]
      go_enter Tryd.func25, Tryd.ntmps25
      go_wp2
      go_ret
      exact ⟨rfl, rfl⟩
    · have e : (decide (0 ≤ i) && decide (i < (n : Int))) = false := by simp [h2]
      rw [e]
      go_enter Tryd.func25, Tryd.ntmps25
      go_wp2
      go_ret
      exact ⟨rfl, rfl⟩
  · have e : (decide (0 ≤ i) && decide (i < (n : Int))) = false := by simp [h]
    rw [e]
    go_enter Tryd.func25, Tryd.ntmps25
    go_wp2
    go_ret
    exact ⟨rfl, rfl⟩
theorem has_any (p : Option Addr) (n c : Nat) (i : Int) (w : World) :
    Calls Tryd.prog 35 #[.slice p n c, .int .i64 i] w fun e w' => e = .returned (.bool (decide (0 ≤ i) && decide (i < n))) ∧ w' = w := by
  by_cases h : 0 ≤ i
  · by_cases h2 : i < n
    · have e : (decide (0 ≤ i) && decide (i < (n : Int))) = true := by simp [h, h2]
      rw [e]
      go_enter Tryd.func35, Tryd.ntmps35
      go_wp2
      go_ret
      exact ⟨rfl, rfl⟩
    · have e : (decide (0 ≤ i) && decide (i < (n : Int))) = false := by simp [h2]
      rw [e]
      go_enter Tryd.func35, Tryd.ntmps35
      go_wp2
      go_ret
      exact ⟨rfl, rfl⟩
  · have e : (decide (0 ≤ i) && decide (i < (n : Int))) = false := by simp [h]
    rw [e]
    go_enter Tryd.func35, Tryd.ntmps35
    go_wp2
    go_ret
    exact ⟨rfl, rfl⟩

/-! None. -/
theorem nilDo_any (n k a x c : Int) (w : World) :
    Calls Tryd.prog 9 #[.pointer none, .int .i64 n, .agg #[.int .i64 k, .int .i64 a, .int .i64 x, .int .i64 c]] w fun e w' => e = .returned (.tuple #[.int .i64 0, .int .i64 11]) ∧ Below w.heap.size w w' := by
  have hA : Below w.heap.size w (w.alloc (.cells #[.int .i64 k, .int .i64 a, .int .i64 x, .int .i64 c] 39)) := (Below.refl _ _).alloc (Nat.le_refl _) _
  have HA := Lib.hid hA
  clear hA
  go_enter Tryd.func9, Tryd.ntmps9
  go_wp2_with fail
  go_ret2
  exact ⟨rfl, HA.out⟩
theorem nilReg_any (n r : Int) (w : World) :
    Calls Tryd.prog 17 #[.pointer none, .int .i64 n, .int .i64 r] w fun e w' => e = .returned (.int .i64 0) ∧ w' = w := by
  go_enter Tryd.func17, Tryd.ntmps17
  go_wp2_with fail
  go_ret
  exact ⟨rfl, rfl⟩
theorem nilCell_any (n : Int) (w : World) :
    Calls Tryd.prog 19 #[.pointer none, .int .i64 n] w fun e w' => e = .returned (.int .i64 0) ∧ w' = w := by
  go_enter Tryd.func19, Tryd.ntmps19
  go_wp2_with fail
  go_ret
  exact ⟨rfl, rfl⟩
theorem nilCount_any (w : World) :
    Calls Tryd.prog 11 #[.pointer none] w fun e w' => e = .returned (.int .i64 0) ∧ w' = w := by
  go_enter Tryd.func11, Tryd.ntmps11
  go_wp2_with fail
  go_ret
  exact ⟨rfl, rfl⟩
theorem nilRoots_any (w : World) :
    Calls Tryd.prog 13 #[.pointer none] w fun e w' => e = .returned (.slice none 0 0) ∧ w' = w := by
  go_enter Tryd.func13, Tryd.ntmps13
  go_wp2_with fail
  go_ret
  exact ⟨rfl, rfl⟩
theorem nilCopy_any (w : World) :
    Calls Tryd.prog 21 #[.pointer none] w fun e w' => e = .returned (.pointer none) ∧ w' = w := by
  go_enter Tryd.func21, Tryd.ntmps21
  go_wp2_with fail
  go_ret
  exact ⟨rfl, rfl⟩
theorem nilFields_any (n : Int) (w : World) :
    Calls Tryd.prog 20 #[.pointer none, .int .i64 n] w fun e w' => e = .returned (.slice none 0 0) ∧ w' = w := by
  by_cases h : n < 1
  · have hd : decide (n < 1) = true := decide_eq_true h
    go_enter Tryd.func20, Tryd.ntmps20
    go_wp2_with fail
    go_ret
    exact ⟨rfl, rfl⟩
  · have h0 : (0 : Int) < n := by omega
    go_enter Tryd.func20, Tryd.ntmps20
    go_wp2_with (go_at_call 11; refine (nilCount_any _).mono ?_; rintro e w9 ⟨rfl, hw9⟩; obtain rfl : w = w9 := hw9.symm)
    go_ret
    exact ⟨rfl, rfl⟩
theorem newBad_any {b wd m r ce lg st : Int} (hr : rightB b wd m r ce lg st = false) (w : World) (hm : LimTab w) :
    Calls Tryd.prog 8 #[.agg #[.int .i64 b, .int .i64 wd, .int .i64 m, .int .i64 r, .int .i64 ce, .int .i64 lg, .int .i64 st]] w fun e w' => e = .returned (.tuple #[.pointer none, .int .i64 1]) ∧ Below w.heap.size w w' := by
  have hA : Below w.heap.size w (w.alloc (.cells #[.int .i64 b, .int .i64 wd, .int .i64 m, .int .i64 r, .int .i64 ce, .int .i64 lg, .int .i64 st] 23)) := (Below.refl _ _).alloc (Nat.le_refl _) _
  have HR := Lib.hid (right_any b wd m r ce lg st _ (hm.later hA))
  have HA := Lib.hid hA
  clear hA
  rw [hr] at HR
  go_enter Tryd.func8, Tryd.ntmps8
  go_wp2_with (go_at_call 24; fail)
  refine HR.out.mono ?_
  rintro e w1 ⟨rfl, hb1⟩
  have HB1 := Lib.hid (HA.out.trans (hb1.mono HA.out.size))
  clear hb1
  go_wp2_with fail
  go_ret2
  exact ⟨rfl, HB1.out⟩

set_option maxRecDepth 100000 in
set_option maxHeartbeats 2000000 in
theorem nilReach_any (w : World) :
    Calls Tryd.prog 15 #[.pointer none] w fun e w' => e = .returned (.slice none 0 0) ∧ Below w.heap.size w w' := by
  obtain ⟨w1, hw1⟩ : ∃ w1, w.alloc (.cells #[.bool false] 4) = w1 := ⟨_, rfl⟩
  have HA : Hid (Below w.heap.size w w1) := Lib.hid (by rw [← hw1]; exact (Below.refl _ _).alloc (Nat.le_refl _) _)
  have HC : Hid (CellsAt w1 w.heap.size [.bool false]) := Lib.hid (by rw [← hw1]; exact CellsAt.new _ _ _)
  have hmk : ∀ W : World, (Instr.makeSlice 76 (.int .i64 1) (.int .i64 1)).run Tryd.prog W = .ok (.slice (some ⟨W.heap.size, 0, none⟩) 1 1) (W.alloc (.cells #[.bool false] 4)) := fun _ => by kernel_rfl
  go_enter Tryd.func15, Tryd.ntmps15
  go_wp2_with fail
  go_step3
  go_wp2_with (first
    | (go_at_call 11; refine (nilCount_any _).mono ?_; rintro e w9 ⟨rfl, hw9⟩; obtain rfl : w = w9 := hw9.symm)
    | (go_at_call 13; refine (nilRoots_any _).mono ?_; rintro e w9 ⟨rfl, hw9⟩; obtain rfl : w1 = w9 := hw9.symm))
  clear hw1
  go_loopw [21] (fun i wr => i = .int .i64 0 ∧ Below w1.heap.size w1 wr) (fun _ _ => 0)
  case atStart => exact ⟨rfl, Below.refl _ _⟩
  case round =>
    obtain ⟨rfl, hb⟩ := hrel
    have HB := Lib.hid hb
    clear hb
    go_wp2_with fail
    go_step3
    go_wp2_with fail
    go_loopw [4] (fun p wr => p = .slice none 0 0 ∧ Below w1.heap.size w1 wr) (fun _ _ => 0)
    case atStart => exact ⟨rfl, HB.out⟩
    case round =>
      obtain ⟨rfl, hb⟩ := hrel
      have HB2 := Lib.hid hb
      clear hb
      go_wp2_with fail
      go_loopw [10, 73] (fun l i wr => l = .slice none 0 0 ∧ (∃ p : Nat, p ≤ 1 ∧ i = .int .i64 p) ∧ Below w1.heap.size w1 wr) (fun _ i _ => 1 - (intOf i).toNat)
      case atStart => exact ⟨rfl, ⟨0, by omega, rfl⟩, HB2.out⟩
      case round =>
        obtain ⟨rfl, ⟨p, hp, rfl⟩, hb⟩ := hrel
        have HB3 := Lib.hid hb
        have c0 := (HC.out.later hb) 0 _ rfl
        clear hb
        by_cases h0 : p = 0
        · subst h0
          go_wp2_with fail
          go_roundw
          case rel => exact ⟨rfl, ⟨1, by omega, by go_num⟩, HB3.out⟩
          case measure => simp [intOf]
        · obtain rfl : p = 1 := by omega
          go_wp2_with fail
          rw [Exit.noGoto_ret]
          go_ret
          exact ⟨rfl, HA.out.trans (HB3.out.mono HA.out.size)⟩
end Go.Proofs.YtcdnbheoelnghaaDoor.Gra

namespace Go.Proofs.YtcdnbheoelnghaaDoor.Gra
open Go.RowKit Go.Proofs.YtcdnbheoelnghaaDoor.Opr Go.MapKept

theorem push_set (w : World) (o m : Obj) : ({ w.alloc m with heap := (w.alloc m).heap.setIfInBounds w.heap.size o } : World) = w.alloc o := by
  have e : (w.heap.push m).setIfInBounds w.heap.size o = w.heap.push o := by
    apply Array.ext_getElem?
    intro i
    rw [Array.getElem?_setIfInBounds, Array.getElem?_push, Array.getElem?_push]
    by_cases h : i = w.heap.size
    · subst h; simp
    · rw [if_neg (fun e => h e.symm), if_neg h, if_neg h]
  show ({ w.alloc m with heap := (w.heap.push m).setIfInBounds w.heap.size o } : World) = _
  rw [e]; rfl
theorem run_put (w : World) (es : Array MapEntry) (clock : Nat) (k : Int) (v : Value) (h : Instr.findNow (.int .i64) (.int .i64 k) es.toList 0 = some none) :
    (Instr.mapUpdate 65 (.map (some w.heap.size)) (.int .i64 k) v).run Tryd.prog (w.alloc (.map es clock)) = .ok () (w.alloc (.map (es.push ⟨.int .i64 k, v, clock⟩) (clock + 1))) := by
  have hb := (heap_alloc w (.map es clock)).1
  have hd := Tryd.underlying3
  simp [Instr.mapUpdate, run_underlying Tryd.underlying65, Go.MapKept.run_getObj_map hb, run_checkKey hd (k := .int .i64 k) rfl, run_findKey hd h, Go.MapKept.run_setObj_map _ hb, Result.andThen]
  exact push_set w _ _
theorem run_got (W : World) (r : Nat) (es : Array MapEntry) (clock : Nat) (k : Int) (i : Nat) (v : Value) (hb : W.heap[r]? = some (.map es clock)) (h : Instr.findNow (.int .i64) (.int .i64 k) es.toList 0 = some (some (i, v))) :
    (Instr.lookup 65 (.map (some r)) (.int .i64 k) false).run Tryd.prog W = .ok v W := by
  have hd := Tryd.underlying3
  simp [Instr.lookup, run_underlying Tryd.underlying65, Go.MapKept.run_getObj_map hb, run_checkKey hd (k := .int .i64 k) rfl, run_findKey hd h, Result.andThen]
/-- The map of deeds. -/
def deedsM : Array MapEntry := #[⟨.int .i64 1, .func (.func 42) #[] #[], 0⟩, ⟨.int .i64 2, .func (.func 43) #[] #[], 1⟩, ⟨.int .i64 3, .func (.func 44) #[] #[], 2⟩, ⟨.int .i64 4, .func (.func 45) #[] #[], 3⟩, ⟨.int .i64 5, .func (.func 46) #[] #[], 4⟩, ⟨.int .i64 6, .func (.func 47) #[] #[], 5⟩, ⟨.int .i64 7, .func (.func 48) #[] #[], 6⟩, ⟨.int .i64 8, .func (.func 49) #[] #[], 7⟩]
set_option maxRecDepth 100000 in
set_option maxHeartbeats 2000000 in
theorem deeds_any (w : World) :
    Calls Tryd.prog 27 #[] w fun e w' => e = .returned (.map (some w.heap.size)) ∧ w' = w.alloc (.map deedsM 8) := by
  have hmm := @run_makeMap Tryd.prog
  have h1 : ∀ w : World, (Instr.mapUpdate 65 (.map (some w.heap.size)) (.int .i64 1) (.func (.func 42) #[] #[])).run Tryd.prog (w.alloc (.map #[] 0)) = .ok () (w.alloc (.map #[⟨.int .i64 1, .func (.func 42) #[] #[], 0⟩] 1)) := fun w => run_put w _ _ _ _ (by rfl)
  have h2 : ∀ w : World, (Instr.mapUpdate 65 (.map (some w.heap.size)) (.int .i64 2) (.func (.func 43) #[] #[])).run Tryd.prog (w.alloc (.map #[⟨.int .i64 1, .func (.func 42) #[] #[], 0⟩] 1)) = .ok () (w.alloc (.map #[⟨.int .i64 1, .func (.func 42) #[] #[], 0⟩, ⟨.int .i64 2, .func (.func 43) #[] #[], 1⟩] 2)) := fun w => run_put w _ _ _ _ (by rfl)
  have h3 : ∀ w : World, (Instr.mapUpdate 65 (.map (some w.heap.size)) (.int .i64 3) (.func (.func 44) #[] #[])).run Tryd.prog (w.alloc (.map #[⟨.int .i64 1, .func (.func 42) #[] #[], 0⟩, ⟨.int .i64 2, .func (.func 43) #[] #[], 1⟩] 2)) = .ok () (w.alloc (.map #[⟨.int .i64 1, .func (.func 42) #[] #[], 0⟩, ⟨.int .i64 2, .func (.func 43) #[] #[], 1⟩, ⟨.int .i64 3, .func (.func 44) #[] #[], 2⟩] 3)) := fun w => run_put w _ _ _ _ (by rfl)
  have h4 : ∀ w : World, (Instr.mapUpdate 65 (.map (some w.heap.size)) (.int .i64 4) (.func (.func 45) #[] #[])).run Tryd.prog (w.alloc (.map #[⟨.int .i64 1, .func (.func 42) #[] #[], 0⟩, ⟨.int .i64 2, .func (.func 43) #[] #[], 1⟩, ⟨.int .i64 3, .func (.func 44) #[] #[], 2⟩] 3)) = .ok () (w.alloc (.map #[⟨.int .i64 1, .func (.func 42) #[] #[], 0⟩, ⟨.int .i64 2, .func (.func 43) #[] #[], 1⟩, ⟨.int .i64 3, .func (.func 44) #[] #[], 2⟩, ⟨.int .i64 4, .func (.func 45) #[] #[], 3⟩] 4)) := fun w => run_put w _ _ _ _ (by rfl)
  have h5 : ∀ w : World, (Instr.mapUpdate 65 (.map (some w.heap.size)) (.int .i64 5) (.func (.func 46) #[] #[])).run Tryd.prog (w.alloc (.map #[⟨.int .i64 1, .func (.func 42) #[] #[], 0⟩, ⟨.int .i64 2, .func (.func 43) #[] #[], 1⟩, ⟨.int .i64 3, .func (.func 44) #[] #[], 2⟩, ⟨.int .i64 4, .func (.func 45) #[] #[], 3⟩] 4)) = .ok () (w.alloc (.map #[⟨.int .i64 1, .func (.func 42) #[] #[], 0⟩, ⟨.int .i64 2, .func (.func 43) #[] #[], 1⟩, ⟨.int .i64 3, .func (.func 44) #[] #[], 2⟩, ⟨.int .i64 4, .func (.func 45) #[] #[], 3⟩, ⟨.int .i64 5, .func (.func 46) #[] #[], 4⟩] 5)) := fun w => run_put w _ _ _ _ (by rfl)
  have h6 : ∀ w : World, (Instr.mapUpdate 65 (.map (some w.heap.size)) (.int .i64 6) (.func (.func 47) #[] #[])).run Tryd.prog (w.alloc (.map #[⟨.int .i64 1, .func (.func 42) #[] #[], 0⟩, ⟨.int .i64 2, .func (.func 43) #[] #[], 1⟩, ⟨.int .i64 3, .func (.func 44) #[] #[], 2⟩, ⟨.int .i64 4, .func (.func 45) #[] #[], 3⟩, ⟨.int .i64 5, .func (.func 46) #[] #[], 4⟩] 5)) = .ok () (w.alloc (.map #[⟨.int .i64 1, .func (.func 42) #[] #[], 0⟩, ⟨.int .i64 2, .func (.func 43) #[] #[], 1⟩, ⟨.int .i64 3, .func (.func 44) #[] #[], 2⟩, ⟨.int .i64 4, .func (.func 45) #[] #[], 3⟩, ⟨.int .i64 5, .func (.func 46) #[] #[], 4⟩, ⟨.int .i64 6, .func (.func 47) #[] #[], 5⟩] 6)) := fun w => run_put w _ _ _ _ (by rfl)
  have h7 : ∀ w : World, (Instr.mapUpdate 65 (.map (some w.heap.size)) (.int .i64 7) (.func (.func 48) #[] #[])).run Tryd.prog (w.alloc (.map #[⟨.int .i64 1, .func (.func 42) #[] #[], 0⟩, ⟨.int .i64 2, .func (.func 43) #[] #[], 1⟩, ⟨.int .i64 3, .func (.func 44) #[] #[], 2⟩, ⟨.int .i64 4, .func (.func 45) #[] #[], 3⟩, ⟨.int .i64 5, .func (.func 46) #[] #[], 4⟩, ⟨.int .i64 6, .func (.func 47) #[] #[], 5⟩] 6)) = .ok () (w.alloc (.map #[⟨.int .i64 1, .func (.func 42) #[] #[], 0⟩, ⟨.int .i64 2, .func (.func 43) #[] #[], 1⟩, ⟨.int .i64 3, .func (.func 44) #[] #[], 2⟩, ⟨.int .i64 4, .func (.func 45) #[] #[], 3⟩, ⟨.int .i64 5, .func (.func 46) #[] #[], 4⟩, ⟨.int .i64 6, .func (.func 47) #[] #[], 5⟩, ⟨.int .i64 7, .func (.func 48) #[] #[], 6⟩] 7)) := fun w => run_put w _ _ _ _ (by rfl)
  have h8 : ∀ w : World, (Instr.mapUpdate 65 (.map (some w.heap.size)) (.int .i64 8) (.func (.func 49) #[] #[])).run Tryd.prog (w.alloc (.map #[⟨.int .i64 1, .func (.func 42) #[] #[], 0⟩, ⟨.int .i64 2, .func (.func 43) #[] #[], 1⟩, ⟨.int .i64 3, .func (.func 44) #[] #[], 2⟩, ⟨.int .i64 4, .func (.func 45) #[] #[], 3⟩, ⟨.int .i64 5, .func (.func 46) #[] #[], 4⟩, ⟨.int .i64 6, .func (.func 47) #[] #[], 5⟩, ⟨.int .i64 7, .func (.func 48) #[] #[], 6⟩] 7)) = .ok () (w.alloc (.map #[⟨.int .i64 1, .func (.func 42) #[] #[], 0⟩, ⟨.int .i64 2, .func (.func 43) #[] #[], 1⟩, ⟨.int .i64 3, .func (.func 44) #[] #[], 2⟩, ⟨.int .i64 4, .func (.func 45) #[] #[], 3⟩, ⟨.int .i64 5, .func (.func 46) #[] #[], 4⟩, ⟨.int .i64 6, .func (.func 47) #[] #[], 5⟩, ⟨.int .i64 7, .func (.func 48) #[] #[], 6⟩, ⟨.int .i64 8, .func (.func 49) #[] #[], 7⟩] 8)) := fun w => run_put w _ _ _ _ (by rfl)
  go_enter Tryd.func27, Tryd.ntmps27
  go_wp2_with fail
  go_ret
  exact ⟨rfl, rfl⟩
theorem deed_got (W : World) (r : Nat) (hb : W.heap[r]? = some (.map deedsM 8)) (k : Nat) (k1 : 1 ≤ k) (k8 : k ≤ 8) :
    ∃ v, deedsM[k - 1]?.map (·.val) = some v ∧ (Instr.lookup 65 (.map (some r)) (.int .i64 k) false).run Tryd.prog W = .ok v W := by
  have hc : k = 1 ∨ k = 2 ∨ k = 3 ∨ k = 4 ∨ k = 5 ∨ k = 6 ∨ k = 7 ∨ k = 8 := by omega
  rcases hc with rfl | rfl | rfl | rfl | rfl | rfl | rfl | rfl
  · exact ⟨_, rfl, run_got W r _ _ _ _ _ hb (by rfl)⟩
  · exact ⟨_, rfl, run_got W r _ _ _ _ _ hb (by rfl)⟩
  · exact ⟨_, rfl, run_got W r _ _ _ _ _ hb (by rfl)⟩
  · exact ⟨_, rfl, run_got W r _ _ _ _ _ hb (by rfl)⟩
  · exact ⟨_, rfl, run_got W r _ _ _ _ _ hb (by rfl)⟩
  · exact ⟨_, rfl, run_got W r _ _ _ _ _ hb (by rfl)⟩
  · exact ⟨_, rfl, run_got W r _ _ _ _ _ hb (by rfl)⟩
  · exact ⟨_, rfl, run_got W r _ _ _ _ _ hb (by rfl)⟩
end Go.Proofs.YtcdnbheoelnghaaDoor.Gra

namespace Go.Proofs.YtcdnbheoelnghaaDoor.Gra
open Go.RowKit Go.Proofs.YtcdnbheoelnghaaDoor.Opr

/-- A row of numbers as it lies. -/
def RowAt (W : World) (p : Option Addr) (l : List Int) : Prop := ∀ i, i < l.length → ∃ b off, p = some ⟨b, off, none⟩ ∧ W.cell? ⟨b, off + i, none⟩ = some (.int .i64 (l.getD i 0))
theorem RowAt.later {W W' : World} {p : Option Addr} {l : List Int} (h : RowAt W p l) (hb : Below W.heap.size W W') : RowAt W' p l := fun i hi => by
  obtain ⟨b, off, e, c⟩ := h i hi
  exact ⟨b, off, e, (hb.cell (p := ⟨b, _, none⟩) (lt_of_cell c)).trans c⟩
/-- A row of rows as it lies. -/
def RowsAt (W : World) (p : Option Addr) (L : List (List Int)) : Prop := ∀ i, i < L.length → ∃ b off q c, p = some ⟨b, off, none⟩ ∧ W.cell? ⟨b, off + i, none⟩ = some (.slice q (L.getD i []).length c) ∧ RowAt W q (L.getD i [])
theorem RowsAt.later {W W' : World} {p : Option Addr} {L : List (List Int)} (h : RowsAt W p L) (hb : Below W.heap.size W W') : RowsAt W' p L := fun i hi => by
  obtain ⟨b, off, q, c, e, h1, h2⟩ := h i hi
  exact ⟨b, off, q, c, e, (hb.cell (p := ⟨b, _, none⟩) (lt_of_cell h1)).trans h1, h2.later hb⟩

theorem count_any (g : Nat) (p : Option Addr) (n c : Nat) (W : World) (h : W.cell? ⟨g, 7, none⟩ = some (.slice p n c)) :
    Calls Tryd.prog 11 #[.pointer (some ⟨g, 0, none⟩)] W fun e w' => e = .returned (.int .i64 n) ∧ w' = W := by
  go_enter Tryd.func11, Tryd.ntmps11
  go_wp2_with fail
  go_ret
  exact ⟨rfl, rfl⟩
/-- What a row has at a number; elsewhere 0. -/
def atI (l : List Int) (i : Int) : Int := if 0 ≤ i ∧ i < l.length then l.getD i.toNat 0 else 0
theorem has_yes {n i : Nat} (h : i < n) : (decide ((0 : Int) ≤ (i : Int)) && decide ((i : Int) < (n : Int))) = true := by simp [h]
theorem has_no {n : Nat} {i : Int} (h : ¬ (0 ≤ i ∧ i < n)) : (decide (0 ≤ i) && decide (i < (n : Int))) = false := by
  rw [Bool.and_eq_false_iff, decide_eq_false_iff_not, decide_eq_false_iff_not]
  omega

set_option maxRecDepth 100000 in
set_option maxHeartbeats 2000000 in
theorem cell_any (g : Nat) (p : Option Addr) (c : Nat) (l : List Int) (i : Int) (W : World) (h : W.cell? ⟨g, 9, none⟩ = some (.slice p l.length c)) (hr : RowAt W p l) :
    Calls Tryd.prog 19 #[.pointer (some ⟨g, 0, none⟩), .int .i64 i] W fun e w' => e = .returned (.int .i64 (atI l i)) ∧ w' = W := by
  by_cases hi : 0 ≤ i ∧ i < l.length
  · obtain ⟨n, rfl⟩ : ∃ n : Nat, i = n := ⟨i.toNat, by omega⟩
    have hn : n < l.length := by omega
    obtain ⟨b, off, rfl, c0⟩ := hr n hn
    have e : atI l n = l.getD n 0 := by unfold atI; rw [if_pos hi]; simp
    rw [e]
    have hy := Lib.hid (has_any (some ⟨b, off, none⟩) l.length c n W)
    rw [has_yes hn] at hy
    have n0 : (0 : Int) ≤ (n : Int) := by omega
    have n1 : (n : Int) < (l.length : Int) := by omega
    generalize l.getD n 0 = v at c0 ⊢
    generalize l.length = m at *
    go_enter Tryd.func19, Tryd.ntmps19
    go_wp2_with (go_at_call 35; refine hy.out.mono ?_; rintro e w9 ⟨rfl, hw9⟩; obtain rfl : W = w9 := hw9.symm)
    go_ret
    exact ⟨rfl, rfl⟩
  · have e : atI l i = 0 := by unfold atI; rw [if_neg hi]
    rw [e]
    have hy := Lib.hid (has_any p l.length c i W)
    rw [has_no hi] at hy
    go_enter Tryd.func19, Tryd.ntmps19
    go_wp2_with (go_at_call 35; refine hy.out.mono ?_; rintro e w9 ⟨rfl, hw9⟩; obtain rfl : W = w9 := hw9.symm)
    go_ret
    exact ⟨rfl, rfl⟩

set_option maxRecDepth 100000 in
set_option maxHeartbeats 2000000 in
theorem reg_any (g : Nat) (p : Option Addr) (c : Nat) (L : List (List Int)) (m r : Int) (W : World) (h : W.cell? ⟨g, 8, none⟩ = some (.slice p L.length c)) (hr : RowsAt W p L) :
    Calls Tryd.prog 17 #[.pointer (some ⟨g, 0, none⟩), .int .i64 m, .int .i64 r] W fun e w' => e = .returned (.int .i64 (if 0 ≤ m ∧ m < L.length then atI (L.getD m.toNat []) r else 0)) ∧ w' = W := by
  by_cases hi : 0 ≤ m ∧ m < L.length
  · rw [if_pos hi]
    obtain ⟨n, rfl⟩ : ∃ n : Nat, m = n := ⟨m.toNat, by omega⟩
    have hn : n < L.length := by omega
    obtain ⟨b, off, q, c2, rfl, c0, hq⟩ := hr n hn
    have en : ((n : Int)).toNat = n := by simp
    rw [en]
    have hy := Lib.hid (hasRows_any (some ⟨b, off, none⟩) L.length c n W)
    rw [has_yes hn] at hy
    have n0 : (0 : Int) ≤ (n : Int) := by omega
    have n1 : (n : Int) < (L.length : Int) := by omega
    generalize L.getD n [] = l at c0 hq ⊢
    generalize L.length = k at *
    by_cases hj : 0 ≤ r ∧ r < l.length
    · obtain ⟨j, rfl⟩ : ∃ j : Nat, r = j := ⟨r.toNat, by omega⟩
      have hjl : j < l.length := by omega
      obtain ⟨b2, off2, rfl, c1⟩ := hq j hjl
      have e : atI l j = l.getD j 0 := by unfold atI; rw [if_pos hj]; simp
      rw [e]
      have hz := Lib.hid (has_any (some ⟨b2, off2, none⟩) l.length c2 j W)
      rw [has_yes hjl] at hz
      have j0 : (0 : Int) ≤ (j : Int) := by omega
      have j1 : (j : Int) < (l.length : Int) := by omega
      generalize l.getD j 0 = v at c1 ⊢
      generalize l.length = u at *
      go_enter Tryd.func17, Tryd.ntmps17
      go_wp2_with (first
        | (go_at_call 25; refine hy.out.mono ?_; rintro e w9 ⟨rfl, hw9⟩; obtain rfl : W = w9 := hw9.symm)
        | (go_at_call 35; refine hz.out.mono ?_; rintro e w9 ⟨rfl, hw9⟩; obtain rfl : W = w9 := hw9.symm))
      go_ret
      exact ⟨rfl, rfl⟩
    · have e : atI l r = 0 := by unfold atI; rw [if_neg hj]
      rw [e]
      have hz := Lib.hid (has_any q l.length c2 r W)
      rw [has_no hj] at hz
      go_enter Tryd.func17, Tryd.ntmps17
      go_wp2_with (first
        | (go_at_call 25; refine hy.out.mono ?_; rintro e w9 ⟨rfl, hw9⟩; obtain rfl : W = w9 := hw9.symm)
        | (go_at_call 35; refine hz.out.mono ?_; rintro e w9 ⟨rfl, hw9⟩; obtain rfl : W = w9 := hw9.symm))
      go_ret
      exact ⟨rfl, rfl⟩
  · rw [if_neg hi]
    have hy := Lib.hid (hasRows_any p L.length c m W)
    rw [has_no hi] at hy
    go_enter Tryd.func17, Tryd.ntmps17
    go_wp2_with (go_at_call 25; refine hy.out.mono ?_; rintro e w9 ⟨rfl, hw9⟩; obtain rfl : W = w9 := hw9.symm)
    go_ret
    exact ⟨rfl, rfl⟩
end Go.Proofs.YtcdnbheoelnghaaDoor.Gra

namespace Go.Proofs.YtcdnbheoelnghaaDoor.Gra
open Go.RowKit Go.Proofs.YtcdnbheoelnghaaDoor.Opr

set_option maxRecDepth 100000 in
set_option maxHeartbeats 2000000 in
theorem take_any {g R ro M cM Q qo K cK m r : Nat} (id : Int) {old : Value} (W : World) (h8 : W.cell? ⟨g, 8, none⟩ = some (.slice (some ⟨R, ro, none⟩) M cM)) (hm : m < M)
    (hR : W.cell? ⟨R, ro + m, none⟩ = some (.slice (some ⟨Q, qo, none⟩) K cK)) (hr : r < K) (hQ : W.cell? ⟨Q, qo + r, none⟩ = some old) (hF : W.frozen? ⟨Q, qo + r, none⟩ = false) :
    Calls Tryd.prog 60 #[.pointer (some ⟨g, 0, none⟩), .int .i64 m, .int .i64 r, .int .i64 id] W fun e w' => e = .returned (.tuple #[.int .i64 id, .int .i64 0]) ∧ w' = W.setCell ⟨Q, qo + r, none⟩ (.int .i64 id) := by
  have m0 : (0 : Int) ≤ (m : Int) := by omega
  have m1 : (m : Int) < (M : Int) := by omega
  have r0 : (0 : Int) ≤ (r : Int) := by omega
  have r1 : (r : Int) < (K : Int) := by omega
  go_enter Tryd.func60, Tryd.ntmps60
  go_wp2_with fail
  go_ret2
  exact ⟨rfl, rfl⟩
theorem fieldNil_any (g : Nat) (k : Int) (W : World) :
    Calls Tryd.prog 61 #[.pointer (some ⟨g, 0, none⟩), .int .i64 0, .int .i64 k] W fun e w' => e = .returned (.tuple #[.pointer none, .int .i64 6]) ∧ w' = W := by
  go_enter Tryd.func61, Tryd.ntmps61
  go_wp2_with fail
  go_ret2
  exact ⟨rfl, rfl⟩
set_option maxRecDepth 100000 in
set_option maxHeartbeats 2000000 in
theorem fieldNo_any {g O oo N cN K cK n : Nat} {q : Option Addr} (k : Int) (W : World) (h7 : W.cell? ⟨g, 7, none⟩ = some (.slice (some ⟨O, oo, none⟩) N cN)) (hn : n < N) (hN : N ≤ 1000000)
    (hO : W.cell? ⟨O, oo + n, none⟩ = some (.slice q K cK)) (hk : ¬ (0 ≤ k ∧ k < K)) :
    Calls Tryd.prog 61 #[.pointer (some ⟨g, 0, none⟩), .int .i64 ((n : Int) + 1), .int .i64 k] W fun e w' => e = .returned (.tuple #[.pointer none, .int .i64 7]) ∧ w' = W := by
  have hy := Lib.hid (has_any q K cK k W)
  rw [has_no hk] at hy
  obtain ⟨i, hi⟩ : ∃ i : Int, (n : Int) + 1 = i := ⟨_, rfl⟩
  have hz : (i == 0) = false := by rw [beq_eq_false_iff_ne]; omega
  have hw : IntKind.i64.wrap (i - 1) = (n : Int) := by rw [IntKind.wrap_i64]; omega
  have n0 : (0 : Int) ≤ (n : Int) := by omega
  have n1 : (n : Int) < (N : Int) := by omega
  rw [hi]
  clear hi hk
  go_enter Tryd.func61, Tryd.ntmps61
  go_wp2_with (go_at_call 35; refine hy.out.mono ?_; rintro e w9 ⟨rfl, hw9⟩; obtain rfl : W = w9 := hw9.symm)
  go_ret2
  exact ⟨rfl, rfl⟩
set_option maxRecDepth 100000 in
set_option maxHeartbeats 2000000 in
theorem field_any {g O oo N cN K cK n Q qo k : Nat} (W : World) (h7 : W.cell? ⟨g, 7, none⟩ = some (.slice (some ⟨O, oo, none⟩) N cN)) (hn : n < N) (hN : N ≤ 1000000)
    (hO : W.cell? ⟨O, oo + n, none⟩ = some (.slice (some ⟨Q, qo, none⟩) K cK)) (hk : k < K) :
    Calls Tryd.prog 61 #[.pointer (some ⟨g, 0, none⟩), .int .i64 ((n : Int) + 1), .int .i64 k] W fun e w' => e = .returned (.tuple #[.pointer (some ⟨Q, qo + k, none⟩), .int .i64 0]) ∧ w' = W := by
  have hy := Lib.hid (has_any (some ⟨Q, qo, none⟩) K cK k W)
  rw [has_yes hk] at hy
  obtain ⟨i, hi⟩ : ∃ i : Int, (n : Int) + 1 = i := ⟨_, rfl⟩
  have hz : (i == 0) = false := by rw [beq_eq_false_iff_ne]; omega
  have hw : IntKind.i64.wrap (i - 1) = (n : Int) := by rw [IntKind.wrap_i64]; omega
  have n0 : (0 : Int) ≤ (n : Int) := by omega
  have n1 : (n : Int) < (N : Int) := by omega
  have k0 : (0 : Int) ≤ (k : Int) := by omega
  have k1 : (k : Int) < (K : Int) := by omega
  rw [hi]
  clear hi hk
  go_enter Tryd.func61, Tryd.ntmps61
  go_wp2_with (go_at_call 35; refine hy.out.mono ?_; rintro e w9 ⟨rfl, hw9⟩; obtain rfl : W = w9 := hw9.symm)
  go_ret2
  exact ⟨rfl, rfl⟩
end Go.Proofs.YtcdnbheoelnghaaDoor.Gra

namespace Go.Proofs.YtcdnbheoelnghaaDoor.Gra
open Go.RowKit Go.Proofs.YtcdnbheoelnghaaDoor.Opr

theorem doOut_any {g M cM : Nat} {p : Option Addr} (m k a x c : Int) (W : World) (h8 : W.cell? ⟨g, 8, none⟩ = some (.slice p M cM)) (hm : ¬ (0 ≤ m ∧ m < M)) :
    Calls Tryd.prog 9 #[.pointer (some ⟨g, 0, none⟩), .int .i64 m, .agg #[.int .i64 k, .int .i64 a, .int .i64 x, .int .i64 c]] W fun e w' => e = .returned (.tuple #[.int .i64 0, .int .i64 4]) ∧ Below W.heap.size W w' := by
  obtain ⟨w0, hw0⟩ : ∃ w0, W.alloc (.cells #[.int .i64 k, .int .i64 a, .int .i64 x, .int .i64 c] 39) = w0 := ⟨_, rfl⟩
  have hA : Below W.heap.size W w0 := by rw [← hw0]; exact (Below.refl _ _).alloc (Nat.le_refl _) _
  have g8 := (hA.cell (p := ⟨g, 8, none⟩) (lt_of_cell h8)).trans h8
  have HA := Lib.hid hA
  clear hA
  have hy := Lib.hid (hasRows_any p M cM m w0)
  rw [has_no hm] at hy
  go_enter Tryd.func9, Tryd.ntmps9
  go_wp2_with (go_at_call 25; refine hy.out.mono ?_; rintro e w9 ⟨rfl, hw9⟩; obtain rfl : w0 = w9 := hw9.symm)
  go_ret2
  exact ⟨rfl, HA.out⟩

set_option maxRecDepth 100000 in
set_option maxHeartbeats 4000000 in
theorem doBad_any {b wd ms r ce lg st : Int} {g M cM m : Nat} {p : Option Addr} (k a x c : Int) (W : World) (hc : CellsAt W g [.int .i64 b, .int .i64 wd, .int .i64 ms, .int .i64 r, .int .i64 ce, .int .i64 lg, .int .i64 st]) (h8 : W.cell? ⟨g, 8, none⟩ = some (.slice p M cM)) (hm : m < M)
    (ht : FormTab W) (hl : LimTab W) (hv : checkE b wd ms r ce lg st k a x c ≠ 0) :
    Calls Tryd.prog 9 #[.pointer (some ⟨g, 0, none⟩), .int .i64 m, .agg #[.int .i64 k, .int .i64 a, .int .i64 x, .int .i64 c]] W fun e w' => e = .returned (.tuple #[.int .i64 0, .int .i64 (checkE b wd ms r ce lg st k a x c)]) ∧ Below W.heap.size W w' := by
  obtain ⟨w0, hw0⟩ : ∃ w0, W.alloc (.cells #[.int .i64 k, .int .i64 a, .int .i64 x, .int .i64 c] 39) = w0 := ⟨_, rfl⟩
  have hA : Below W.heap.size W w0 := by rw [← hw0]; exact (Below.refl _ _).alloc (Nat.le_refl _) _
  have g8 := (hA.cell (p := ⟨g, 8, none⟩) (lt_of_cell h8)).trans h8
  have hO : CellsAt w0 W.heap.size [.int .i64 k, .int .i64 a, .int .i64 x, .int .i64 c] := by rw [← hw0]; exact CellsAt.new _ _ _
  have hC := hc.later hA
  have HA := Lib.hid hA
  have HCK : Hid (∀ V, Below W.heap.size W V → Calls Tryd.prog 26 #[.agg #[.int .i64 b, .int .i64 wd, .int .i64 ms, .int .i64 r, .int .i64 ce, .int .i64 lg, .int .i64 st], .agg #[.int .i64 k, .int .i64 a, .int .i64 x, .int .i64 c]] V fun e w' => e = .returned (.int .i64 (checkE b wd ms r ce lg st k a x c)) ∧ Below V.heap.size V w') := Lib.hid fun V hV => check_any b wd ms r ce lg st k a x c V (ht.later hV) (hl.later hV)
  generalize checkE b wd ms r ce lg st k a x c = v at *
  have hq : (v != 0) = true := by rw [bne_iff_ne]; exact hv
  have hy := Lib.hid (hasRows_any p M cM m w0)
  rw [has_yes hm] at hy
  have c0 := hC 0 _ rfl
  have c1 := hC 1 _ rfl
  have c2 := hC 2 _ rfl
  have c3 := hC 3 _ rfl
  have c4 := hC 4 _ rfl
  have c5 := hC 5 _ rfl
  have c6 := hC 6 _ rfl
  have o0 := hO 0 _ rfl
  have o1 := hO 1 _ rfl
  have o2 := hO 2 _ rfl
  have o3 := hO 3 _ rfl
  have d0 := cell_regrown c0
  have d1 := cell_regrown c1
  have d2 := cell_regrown c2
  have d3 := cell_regrown c3
  have d4 := cell_regrown c4
  have d5 := cell_regrown c5
  have d6 := cell_regrown c6
  have e0 := cell_regrown o0
  have e1 := cell_regrown o1
  have e2 := cell_regrown o2
  have e3 := cell_regrown o3
  have HGR : Hid (∀ d os, Below W.heap.size W (Sort.grow (redrawn w0 d) os)) := Lib.hid fun d os => HA.out.trans ((below_regrown w0 d os).mono HA.out.size)
  clear hA hv hC hO hc ht hl h8
  go_enter Tryd.func9, Tryd.ntmps9
  go_wp2_with (go_at_call 25; refine hy.out.mono ?_; rintro e w9 ⟨rfl, hw9⟩; obtain rfl : w0 = w9 := hw9.symm)
  refine wp_region_quiet_below (by kernel_rfl) (by kernel_rfl) ?_
  repeat (go_big_quiet_step (first
    | (go_at_call 26; exact Calls.regrown_of (HCK.out _ (HGR.out _ _)))))
  refine wpQuiet_nil ?_
  intro W5 hw'
  have HBW5 := Lib.hid (below_of_regrown hw')
  clear hw'
  go_wp2_with fail
  go_ret2
  exact ⟨rfl, HA.out.trans (HBW5.out.mono HA.out.size)⟩
end Go.Proofs.YtcdnbheoelnghaaDoor.Gra
