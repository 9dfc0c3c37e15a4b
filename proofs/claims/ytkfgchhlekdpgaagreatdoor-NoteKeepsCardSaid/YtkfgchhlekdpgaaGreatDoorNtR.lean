/-
  Run: steps, one behind the other.
-/
import Derived.Test.YtkfgchhlekdpgaaGreatDoorSwm
import Derived.WalkMore
namespace Go.Proofs.YtkfgchhlekdpgaaGreatDoor.Nt
open Go.RowKit

/-- What holds ahead of each step, and at the end. -/
structure Aim where
  i : World → Prop
  q : World → Prop
/-- A step does so, in so many steps. -/
def Does (Q : Aim) : Nat → Value → World → Prop
  | 0, v, W => v = .nilFunc ∧ Q.q W
  | k + 1, v, W => Q.i W ∧ ∃ f cap, v = .func (.func f) #[] cap ∧ (∀ V : World, (callFunc f cap).run Tryz.prog V = .ok (.enter f cap) V) ∧ Calls Tryz.prog f cap W fun e W' => ∃ v', e = .returned v' ∧ Does Q k v' W'

set_option maxRecDepth 100000 in
set_option maxHeartbeats 2000000 in
theorem run_any (Q : Aim) (k : Nat) (most : Nat) (v : Value) (W : World) (h : Does Q k v W) (hk : k ≤ most) (hm : most ≤ 1000000) :
    Calls Tryz.prog 18 #[v, .int .i64 most] W fun e w' => e = .returned (.tuple #[.int .i64 k, .bool true]) ∧ Q.q w' := by
  have hqn : ∀ W : World, (binOp .eql 48 .nilFunc .nilFunc).run Tryz.prog W = .ok (.bool true) W := fun _ => by kernel_rfl
  have hqf : ∀ (f : FuncId) (cap : Array Value) (W : World), (binOp .eql 48 (.func (.func f) #[] cap) .nilFunc).run Tryz.prog W = .ok (.bool false) W := fun _ _ _ => by kernel_rfl
  have H := Lib.hid h
  clear h
  go_enter Tryz.func18, Tryz.ntmps18
  go_wp2_with fail
  go_step3
  go_wp2_with fail
  go_step3
  go_wp2_with fail
  go_loopw [0, 6] (fun s d wr => ∃ j : Nat, j ≤ k ∧ d = .int .i64 j ∧ Does Q (k - j) s wr) (fun _ d _ => k + 1 - (intOf d).toNat)
  case atStart => exact ⟨0, Nat.zero_le _, rfl, H.out⟩
  case round =>
    clear H
    obtain ⟨j, hj, rfl, hs⟩ := hrel
    have HS := Lib.hid hs
    clear hs
    have j0 : (0 : Int) ≤ (j : Int) := by omega
    by_cases hjk : j = k
    · subst hjk
      have h0 := HS.out
      rw [Nat.sub_self] at h0
      obtain ⟨rfl, hq⟩ := h0
      have HQ := Lib.hid hq
      clear hq HS
      go_wp2_with fail
      rw [Exit.noGoto_ret]
      go_ret2
      exact ⟨rfl, HQ.out⟩
    · obtain ⟨q, hq⟩ : ∃ q, k - j = q + 1 := ⟨k - j - 1, by omega⟩
      have h0 := HS.out
      rw [hq] at h0
      obtain ⟨_, f, cap, rfl, hcf, hc⟩ := h0
      have HC := Lib.hid hc
      clear hc HS
      have hge : decide ((most : Int) ≤ (j : Int)) = false := decide_eq_false (by omega)
      have hge2 : decide (most ≤ j) = false := decide_eq_false (by omega)
      have j1 : (j : Int) ≤ 1000000 := by omega
      go_wp2_with fail
      refine HC.out.mono ?_
      rintro e W' ⟨v', rfl, hd⟩
      have HD := Lib.hid hd
      clear hd HC hcf
      go_wp2_with fail
      go_roundw
      case rel => exact ⟨j + 1, by omega, by go_num, by rw [show k - (j + 1) = q by omega]; exact HD.out⟩
      case measure => simp [intOf]; omega
set_option maxRecDepth 100000 in
set_option maxHeartbeats 2000000 in
/-- Fewer than there are. -/
theorem run_few (Q : Aim) (k : Nat) (most : Int) (v : Value) (W : World) (h : Does Q k v W) (mt : Nat) (hmt : most.toNat = mt) (hk0 : 0 < k) (hk : most < k) (hm : k ≤ 1000000) :
    Calls Tryz.prog 18 #[v, .int .i64 most] W fun e w' => e = .returned (.tuple #[.int .i64 mt, .bool false]) ∧ Q.i w' := by
  have hqn : ∀ W : World, (binOp .eql 48 .nilFunc .nilFunc).run Tryz.prog W = .ok (.bool true) W := fun _ => by kernel_rfl
  have hqf : ∀ (f : FuncId) (cap : Array Value) (W : World), (binOp .eql 48 (.func (.func f) #[] cap) .nilFunc).run Tryz.prog W = .ok (.bool false) W := fun _ _ _ => by kernel_rfl
  have H := Lib.hid h
  have hmt2 : (mt : Int) ≤ k := by omega
  have HMT := Lib.hid hmt
  clear h hmt
  go_enter Tryz.func18, Tryz.ntmps18
  go_wp2_with fail
  go_step3
  go_wp2_with fail
  go_step3
  go_wp2_with fail
  go_loopw [0, 6] (fun s d wr => ∃ j : Nat, j ≤ mt ∧ d = .int .i64 j ∧ Does Q (k - j) s wr) (fun _ d _ => k + 1 - (intOf d).toNat)
  case atStart => exact ⟨0, Nat.zero_le _, rfl, H.out⟩
  case round =>
    clear H
    obtain ⟨j, hj, rfl, hs⟩ := hrel
    have HS := Lib.hid hs
    clear hs
    have j0 : (0 : Int) ≤ (j : Int) := by omega
    obtain ⟨q, hq⟩ : ∃ q, k - j = q + 1 := ⟨k - j - 1, by have := HMT.out; omega⟩
    have h0 := HS.out
    rw [hq] at h0
    obtain ⟨hi0, f, cap, rfl, hcf, hc⟩ := h0
    have HI := Lib.hid hi0
    have HC := Lib.hid hc
    clear hc HS hi0
    by_cases hjk : most ≤ (j : Int)
    · obtain rfl : j = mt := by have := HMT.out; omega
      have hge : decide (most ≤ (j : Int)) = true := decide_eq_true hjk
      clear hcf
      go_wp2_with fail
      rw [Exit.noGoto_ret]
      go_ret2
      exact ⟨rfl, HI.out⟩
    · have hge : decide (most ≤ (j : Int)) = false := decide_eq_false hjk
      have j1 : (j : Int) ≤ 1000000 := by omega
      go_wp2_with fail
      refine HC.out.mono ?_
      rintro e W' ⟨v', rfl, hd⟩
      have HD := Lib.hid hd
      clear hd HC hcf HI
      go_wp2_with fail
      go_roundw
      case rel => exact ⟨j + 1, by have := HMT.out; omega, by go_num, by rw [show k - (j + 1) = q by omega]; exact HD.out⟩
      case measure => simp [intOf]; omega
end Go.Proofs.YtkfgchhlekdpgaaGreatDoor.Nt
