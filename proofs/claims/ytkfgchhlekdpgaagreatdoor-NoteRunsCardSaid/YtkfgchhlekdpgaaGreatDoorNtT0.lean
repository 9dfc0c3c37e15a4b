/-
  NoteRuns: what is not there; flags; all steps.
-/
import Derived.Test.YtkfgchhlekdpgaaGreatDoorNtQ
namespace Go.Proofs.YtkfgchhlekdpgaaGreatDoor.Nt
open Go.RowKit
open Class (below_drewN)
open Hp (Ids St Is To Mine bnI bn coE coV colB objL st0)
open Lg (BfIs BxIs)
open Blk (Cfg little BytesP)
open Sw (ThingsP madeS Sm)
open Go.Proofs.YtkfgchhlekdpgaaGreatDoor.Row (Chg rowB Rd Rd0 cellsZ)
open Go.Proofs.YtkfgchhlekdpgaaGreatDoor.Addr (Tabs)

set_option maxRecDepth 100000 in
set_option maxHeartbeats 2000000 in
theorem run_all (Q : Aim) (k : Nat) (most : Int) (v : Value) (W : World) (h : Does Q k v W) (hk : (k : Int) ≤ most) (hm : k ≤ 1000000) :
    Calls Tryz.prog 18 #[v, .int .i64 most] W fun e w' => e = .returned (.tuple #[.int .i64 k, .bool true]) ∧ Q.q w' := by
  have hqn : ∀ W : World, (binOp .eql 48 .nilFunc .nilFunc).run Tryz.prog W = .ok (.bool true) W := fun _ => by kernel_rfl
  have hqf : ∀ (f : FuncId) (cap : Array Value) (W : World), (binOp .eql 48 (.func (.func f) #[] cap) .nilFunc).run Tryz.prog W = .ok (.bool false) W := fun _ _ _ => by kernel_rfl
  have H := Lib.hid h
  clear h
  go_enter Tryz.func18, Tryz.ntmps18
  go_wp2_with fail
  go_step3
  go_wp2_with fail
  go_step3
  go_wp2_with fail
  go_loopw [0, 6] (fun s d wr => ∃ j : Nat, j ≤ k ∧ d = .int .i64 j ∧ Does Q (k - j) s wr) (fun _ d _ => k + 1 - (intOf d).toNat)
  case atStart => exact ⟨0, Nat.zero_le _, rfl, H.out⟩
  case round =>
    clear H
    obtain ⟨j, hj, rfl, hs⟩ := hrel
    have HS := Lib.hid hs
    clear hs
    have j0 : (0 : Int) ≤ (j : Int) := by omega
    by_cases hjk : j = k
    · subst hjk
      have h0 := HS.out
      rw [Nat.sub_self] at h0
      obtain ⟨rfl, hq⟩ := h0
      have HQ := Lib.hid hq
      clear hq HS
      go_wp2_with fail
      rw [Exit.noGoto_ret]
      go_ret2
      exact ⟨rfl, HQ.out⟩
    · obtain ⟨q, hq⟩ : ∃ q, k - j = q + 1 := ⟨k - j - 1, by omega⟩
      have h0 := HS.out
      rw [hq] at h0
      obtain ⟨_, f, cap, rfl, hcf, hc⟩ := h0
      have HC := Lib.hid hc
      clear hc HS
      have hge : decide (most ≤ (j : Int)) = false := decide_eq_false (by omega)
      have j1 : (j : Int) ≤ 1000000 := by omega
      go_wp2_with fail
      refine HC.out.mono ?_
      rintro e W' ⟨v', rfl, hd⟩
      have HD := Lib.hid hd
      clear hd HC hcf
      go_wp2_with fail
      go_roundw
      case rel => exact ⟨j + 1, by omega, by go_num, by rw [show k - (j + 1) = q by omega]; exact HD.out⟩
      case measure => simp [intOf]; omega

theorem run_zero (v : Value) (hv : v = .nilFunc) (most : Int) (W : World) : Calls Tryz.prog 18 #[v, .int .i64 most] W fun e w' => e = .returned (.tuple #[.int .i64 0, .bool true]) ∧ w' = W := by
  subst hv
  have hqn : ∀ W : World, (binOp .eql 48 .nilFunc .nilFunc).run Tryz.prog W = .ok (.bool true) W := fun _ => by kernel_rfl
  go_enter Tryz.func18, Tryz.ntmps18
  go_wp2_with fail
  go_step3
  go_wp2_with fail
  go_step3
  go_wp2_with fail
  go_loopw [0, 6] (fun s d wr => s = .nilFunc ∧ d = .int .i64 0 ∧ wr = W) (fun _ _ _ => 0)
  case atStart => exact ⟨rfl, rfl, rfl⟩
  case round =>
    obtain ⟨rfl, rfl, rfl⟩ := hrel
    go_wp2_with fail
    rw [Exit.noGoto_ret]
    go_ret2
    exact ⟨rfl, rfl⟩
set_option maxRecDepth 100000 in
theorem up_nil (w : World) : Calls Tryz.prog 25 #[.pointer none] w fun e w' => e = .returned (.bool false) ∧ w' = w := by
  go_enter Tryz.func25, Tryz.ntmps25
  go_wp2_with fail
  go_ret
  exact ⟨rfl, rfl⟩
set_option maxRecDepth 100000 in
theorem lower_nil (w : World) : Calls Tryz.prog 31 #[.pointer none] w fun e w' => e = .returned (.bool false) ∧ w' = w := by
  go_enter Tryz.func31, Tryz.ntmps31
  go_wp2_with (go_at_call 25; refine (up_nil _).mono ?_; rintro e w9 ⟨rfl, rfl⟩)
  go_ret
  exact ⟨rfl, rfl⟩
set_option maxRecDepth 100000 in
theorem raise_nil (w : World) : Calls Tryz.prog 30 #[.pointer none] w fun e w' => e = .returned (.tuple #[]) ∧ w' = w := by
  go_enter Tryz.func30, Tryz.ntmps30
  go_wp2_with fail
  exact bodyPost_end (results_none rfl _ _ _) rfl ⟨rfl, rfl⟩
section
variable {w : Bas} {wr : World} {H : Nat} {d : Ids} {s : St} {m B X F N room : Nat} {xs ys : List Int} {ex : List (Nat × Value)}
set_option maxRecDepth 100000 in
theorem nb_lower_up (h : Nb w wr H d s m B X F N room xs ys true ex) : Calls Tryz.prog 31 #[.pointer (some ⟨F, 0, none⟩)] wr fun e w' => e = .returned (.bool true) ∧ Nb w w' H d s m B X F N room xs ys false ex := by
  have HU := Lib.hid (nb_up h)
  have HH := Lib.hid h
  clear h
  go_enter Tryz.func31, Tryz.ntmps31
  go_wp2_with (go_at_call 25; fail)
  refine HU.out.mono ?_
  rintro e w2 ⟨rfl, hb⟩
  have h2 := HH.out.later hb
  have c0 := h2.fl
  have f0 := h2.ff
  have HF := Lib.hid (h2.flag false)
  clear h2 hb
  go_wp2_with fail
  go_ret
  exact ⟨rfl, HF.out⟩
set_option maxRecDepth 100000 in
theorem nb_lower_no (h : Nb w wr H d s m B X F N room xs ys false ex) : Calls Tryz.prog 31 #[.pointer (some ⟨F, 0, none⟩)] wr fun e w' => e = .returned (.bool false) ∧ Below wr.heap.size wr w' := by
  have HU := Lib.hid (nb_up h)
  clear h
  go_enter Tryz.func31, Tryz.ntmps31
  go_wp2_with (go_at_call 25; fail)
  refine HU.out.mono ?_
  rintro e w2 ⟨rfl, hb⟩
  have HB := Lib.hid hb
  clear hb
  go_wp2_with fail
  go_ret
  exact ⟨rfl, HB.out⟩
end
set_option maxRecDepth 100000 in
theorem new_no_h (p1 : Option Addr) (p2 : Option Addr) (p3 : Option Addr) (w : World) : Calls Tryz.prog 14 #[.pointer none, .pointer p1, .pointer p2, .pointer p3] w fun e w' => e = .returned (.tuple #[.pointer none, .int .i64 1]) ∧ w' = w := by
  go_enter Tryz.func14, Tryz.ntmps14
  go_wp2_with fail
  go_ret2
  exact ⟨rfl, rfl⟩
set_option maxRecDepth 100000 in
theorem new_no_b (p0 : Addr) (p2 : Option Addr) (p3 : Option Addr) (w : World) : Calls Tryz.prog 14 #[.pointer (some p0), .pointer none, .pointer p2, .pointer p3] w fun e w' => e = .returned (.tuple #[.pointer none, .int .i64 1]) ∧ w' = w := by
  go_enter Tryz.func14, Tryz.ntmps14
  go_wp2_with fail
  go_ret2
  exact ⟨rfl, rfl⟩
set_option maxRecDepth 100000 in
theorem new_no_x (p0 : Addr) (p1 : Addr) (p3 : Option Addr) (w : World) : Calls Tryz.prog 14 #[.pointer (some p0), .pointer (some p1), .pointer none, .pointer p3] w fun e w' => e = .returned (.tuple #[.pointer none, .int .i64 1]) ∧ w' = w := by
  go_enter Tryz.func14, Tryz.ntmps14
  go_wp2_with fail
  go_ret2
  exact ⟨rfl, rfl⟩
set_option maxRecDepth 100000 in
theorem new_no_f (p0 : Addr) (p1 : Addr) (p2 : Addr) (w : World) : Calls Tryz.prog 14 #[.pointer (some p0), .pointer (some p1), .pointer (some p2), .pointer none] w fun e w' => e = .returned (.tuple #[.pointer none, .int .i64 1]) ∧ w' = w := by
  go_enter Tryz.func14, Tryz.ntmps14
  go_wp2_with fail
  go_ret2
  exact ⟨rfl, rfl⟩
set_option maxRecDepth 100000 in
theorem none_Note (v c : Int) (f : FuncId) (cap : Array Value) (w : World) : Calls Tryz.prog 19 #[.pointer none, .int .i64 v, .int .i64 c, .func (.func f) #[] cap] w fun e w' => e = .returned (.func (.func f) #[] cap) ∧ Below w.heap.size w w' := by
  have HB : Hid (Below w.heap.size w (((w.alloc (.cells #[.pointer none] 36)).alloc (.cells #[.int .i64 v] 3)).alloc (.cells #[.int .i64 c] 3))) := Lib.hid ((((Below.refl _ _).alloc (Nat.le_refl _) _).alloc (by simp) _).alloc (by simp; omega) _)
  go_enter Tryz.func19, Tryz.ntmps19
  go_wp2_with fail
  go_ret
  exact ⟨rfl, HB.out.alloc (by simp; omega) _⟩
set_option maxRecDepth 100000 in
theorem none_Pour (c : Int) (f : FuncId) (cap : Array Value) (w : World) : Calls Tryz.prog 27 #[.pointer none, .int .i64 c, .func (.func f) #[] cap] w fun e w' => e = .returned (.func (.func f) #[] cap) ∧ Below w.heap.size w w' := by
  have HB : Hid (Below w.heap.size w (((w.alloc (.cells #[.pointer none] 36)).alloc (.cells #[.int .i64 c] 3)).alloc (.cells #[.func (.func f) #[] cap] 48))) := Lib.hid ((((Below.refl _ _).alloc (Nat.le_refl _) _).alloc (by simp) _).alloc (by simp; omega) _)
  go_enter Tryz.func27, Tryz.ntmps27
  go_wp2_with fail
  go_ret
  exact ⟨rfl, HB.out⟩
end Go.Proofs.YtkfgchhlekdpgaaGreatDoor.Nt
