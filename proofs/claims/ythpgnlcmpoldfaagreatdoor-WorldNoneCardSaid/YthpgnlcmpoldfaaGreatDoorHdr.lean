/-
  Base texts, one behind the other: HdrA.
-/
import Derived.Test.YthpgnlcmpoldfaaGreatDoorRows
import Derived.WalkKit
import Derived.WalkSpells
import Derived.WalkLawsBesides
import Derived.Laws.BitsAllLaws
import Derived.Lib.Hide
namespace Go.Proofs.YthpgnlcmpoldfaaGreatDoor.Hdr
open Go.RowKit

theorem ret_int {k : IntKind} {a b : Int} (h : a = b) : Ending.returned (.int k a) = .returned (.int k b) := by rw [h]
/-- A link's word. -/
def lk (a : Nat) : Nat := 9223372036854775808 + a
theorem or_lk {a : Nat} (h : a ≤ 1048576) : (9223372036854775808 ||| a : Nat) = lk a := by
  unfold lk
  have := Nat.two_pow_add_eq_or_of_lt (i := 63) (b := a) (show a < 2 ^ 63 by omega) 1
  simpa using this.symm
theorem and_mask (w : Nat) : (w &&& 4611686018427387903 : Nat) = w % 4611686018427387904 := by
  rw [show (4611686018427387903 : Nat) = 2 ^ 62 - 1 from rfl, Nat.and_two_pow_sub_one_eq_mod]
theorem lk_mod {a : Nat} (h : a ≤ 1048576) : lk a % 4611686018427387904 = a := by unfold lk; omega
theorem lk_lt {a : Nat} (h : a ≤ 1048576) : lk a < 18446744073709551616 := by unfold lk; omega

set_option maxHeartbeats 400000 in
theorem said_any (w : Nat) (W : World) (hw : w < 18446744073709551616) : Calls Tryz.prog 225 #[.int .u64 w] W fun e W' => e = .returned (.int .i64 (w % 4611686018427387904 : Nat)) ∧ W = W' := by
  have ha : bits BinOp.and IntKind.u64 (w : Int) 4611686018427387903 = ((w % 4611686018427387904 : Nat) : Int) := by
    have := u64_and_nat w 4611686018427387903 hw (by decide)
    rw [and_mask] at this
    exact this
  have hm : w % 4611686018427387904 < 4611686018427387904 := Nat.mod_lt _ (by decide)
  have hc : IntKind.i64.wrap ((w % 4611686018427387904 : Nat) : Int) = ((w % 4611686018427387904 : Nat) : Int) := IntWalk.i64_in _ (by omega)
  generalize w % 4611686018427387904 = r at *
  go_enter Tryz.func225, Tryz.ntmps225
  go_wp2
  go_ret
  exact ⟨rfl, rfl⟩

set_option maxHeartbeats 400000 in
theorem word_any (a : Nat) (W : World) (h : a ≤ 1048576) : Calls Tryz.prog 221 #[.int .i64 2, .int .i64 a] W fun e W' => e = .returned (.int .u64 (lk a)) ∧ W = W' := by
  have ho : bits BinOp.or IntKind.u64 9223372036854775808 (a : Int) = ((lk a : Nat) : Int) := by
    have := u64_or_nat 9223372036854775808 a (by decide) (by omega)
    rw [or_lk h] at this
    exact this
  have hc : IntKind.u64.wrap (a : Int) = (a : Int) := by rw [IntKind.wrap_u64]; omega
  go_enter Tryz.func221, Tryz.ntmps221
  go_wp2
  go_ret
  exact ⟨rfl, rfl⟩

set_option maxHeartbeats 400000 in
theorem link_yes (a : Nat) (W : World) (h : a ≤ 1048576) : Calls Tryz.prog 285 #[.int .i64 a] W fun e W' => e = .returned (.tuple #[.int .u64 (lk a), .bool true]) ∧ W = W' := by
  have h1 : ¬ (a : Int) < 0 := by omega
  have h2 : ¬ (1048576 : Int) < (a : Int) := by omega
  go_enter Tryz.func285, Tryz.ntmps285
  go_wp2_with (go_at_call 221; refine (word_any _ _ h).mono ?_; rintro e W' ⟨rfl, rfl⟩)
  go_ret2
  exact ⟨rfl, rfl⟩
set_option maxHeartbeats 400000 in
theorem link_no (a : Int) (W : World) (h : a < 0 ∨ 1048576 < a) : Calls Tryz.prog 285 #[.int .i64 a] W fun e W' => e = .returned (.tuple #[.int .u64 0, .bool false]) ∧ W = W' := by
  rcases h with h | h
  · go_enter Tryz.func285, Tryz.ntmps285
    go_wp2
    go_ret2
    exact ⟨rfl, rfl⟩
  · have h1 : ¬ a < 0 := by omega
    go_enter Tryz.func285, Tryz.ntmps285
    go_wp2
    go_ret2
    exact ⟨rfl, rfl⟩

/-- To what a word links. -/
def isLk (w : Nat) : Bool := decide (w % 4611686018427387904 ≤ 1048576) && (lk (w % 4611686018427387904) == w)
def nx (w : Nat) : Nat := if isLk w = true then w % 4611686018427387904 else 0
theorem isLk_lk {a : Nat} (h : a ≤ 1048576) : isLk (lk a) = true ∧ nx (lk a) = a := by
  have hi : isLk (lk a) = true := by simp [isLk, lk_mod h, h]
  exact ⟨hi, by rw [nx, if_pos hi, lk_mod h]⟩
theorem nx_le (w : Nat) : nx w ≤ 1048576 := by
  unfold nx
  split
  · rename_i h
    simp [isLk] at h
    exact h.1
  · omega

end Go.Proofs.YthpgnlcmpoldfaaGreatDoor.Hdr
