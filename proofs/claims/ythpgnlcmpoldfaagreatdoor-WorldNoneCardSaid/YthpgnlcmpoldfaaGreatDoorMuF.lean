/-
  What a mutator tells of itself.
-/
import Derived.Test.YthpgnlcmpoldfaaGreatDoorMuE
namespace Go.Proofs.YthpgnlcmpoldfaaGreatDoor.Mu
open Go.RowKit
open Lg (BfIs BxIs)
open Go.Proofs.YthpgnlcmpoldfaaGreatDoor.Row (Chg rowB rowB_none cellsZ clone_any Rd)

/-- Of a next step: none, or a closure. -/
def isF (v : Value) : Prop := ∃ f cap, v = .func (.func f) #[] cap
section
variable {y : Sy} {T : Nat → Prop} {z : Ml} {m : Md}
theorem mheld_any (w : World) (h : MIs w y T z m) : Calls Tryz.prog 14 #[.pointer (some ⟨z.M, 0, none⟩)] w fun e w' => e = .returned (.int .i64 m.he) ∧ w' = w := by
  have c := h.c10
  have hl := h.ltM
  clear h
  go_enter Tryz.func14, Tryz.ntmps14
  go_wp2_with fail
  go_ret
  exact ⟨rfl, rfl⟩
theorem mmode_any (w : World) (h : MIs w y T z m) : Calls Tryz.prog 15 #[.pointer (some ⟨z.M, 0, none⟩)] w fun e w' => e = .returned (.int .i64 m.mo) ∧ w' = w := by
  have c := h.c5
  have hl := h.ltM
  clear h
  go_enter Tryz.func15, Tryz.ntmps15
  go_wp2_with fail
  go_ret
  exact ⟨rfl, rfl⟩
theorem mcolor_any (w : World) (h : MIs w y T z m) : Calls Tryz.prog 16 #[.pointer (some ⟨z.M, 0, none⟩)] w fun e w' => e = .returned (.int .i64 m.co) ∧ w' = w := by
  have c := h.c6
  have hl := h.ltM
  clear h
  go_enter Tryz.func16, Tryz.ntmps16
  go_wp2_with fail
  go_ret
  exact ⟨rfl, rfl⟩
theorem mmost_any (w : World) (h : MIs w y T z m) : Calls Tryz.prog 12 #[.pointer (some ⟨z.M, 0, none⟩)] w fun e w' => e = .returned (.tuple #[.int .i64 m.mop, .int .i64 m.man]) ∧ ∃ q, w' = w.drewN q := by
  have c := h.c19
  have c2 := h.c20
  have hl := h.ltM
  clear h
  go_enter Tryz.func12, Tryz.ntmps12
  go_wp2_with fail
  go_quiet (fail)
  go_wp2_with fail
  go_ret2
  exact ⟨rfl, _, rfl⟩
theorem mregs_any (w : World) (h : MIs w y T z m) (hr : m.rg.length ≤ 64) : Calls Tryz.prog 13 #[.pointer (some ⟨z.M, 0, none⟩)] w fun e w' => ∃ p cap, e = .returned (.slice p m.rg.length cap) ∧ w'.ownsRow w.heap.size 3 1 (.slice p m.rg.length cap) m.rg.length (cellsZ m.rg) ∧ Below w.heap.size w w' := by
  have c := h.c2
  have hl := h.ltM
  have hrd : Rd w (some ⟨z.G, 0, none⟩) m.rg := .inr ⟨z.G, 0, rfl, fun j hj => by rw [Nat.zero_add]; exact h.rg j hj⟩
  have HC := Lib.hid (clone_any (cap := m.rg.length) _ m.rg w (by omega) (fun e => by cases e) hrd)
  clear h hrd
  go_enter Tryz.func13, Tryz.ntmps13
  go_wp2_with (go_at_call 63; fail)
  refine HC.out.mono ?_
  rintro e w1 ⟨p, cap, rfl, hown, hb⟩
  have HO := Lib.hid hown
  have HB := Lib.hid hb
  clear hown hb
  go_wp2_with fail
  go_ret
  exact ⟨p, cap, rfl, HO.out, HB.out⟩
theorem mlogged_any (w : World) (h : MIs w y T z m) : Calls Tryz.prog 17 #[.pointer (some ⟨z.M, 0, none⟩)] w fun e w' => ∃ p cap, e = .returned (.slice p m.xs.length cap) ∧ Rd w' p m.xs ∧ Below w.heap.size w w' := by
  have c := h.c3
  have hl := h.ltM
  have HC := Lib.hid (Lg.all_any w h.bf)
  clear h
  go_enter Tryz.func17, Tryz.ntmps17
  go_wp2_with (go_at_call 64; fail)
  refine HC.out.mono ?_
  rintro e w1 ⟨p, cap, rfl, hown, hb⟩
  have HO := Lib.hid hown
  have HB := Lib.hid hb
  clear hown hb
  go_wp2_with fail
  go_ret
  exact ⟨p, cap, rfl, HO.out, HB.out⟩
theorem mbusy_no (w : World) (h : MIs w y T z m) (hn : m.nx = .nilFunc) : Calls Tryz.prog 19 #[.pointer (some ⟨z.M, 0, none⟩)] w fun e w' => e = .returned (.bool false) ∧ w' = w := by
  have c := h.c11
  rw [hn] at c
  have hl := h.ltM
  have hqn : ∀ W : World, (binOp .neq 104 .nilFunc .nilFunc).run Tryz.prog W = .ok (.bool false) W := fun _ => by kernel_rfl
  clear h hn
  go_enter Tryz.func19, Tryz.ntmps19
  go_wp2_with fail
  go_ret
  exact ⟨rfl, rfl⟩
theorem mbusy_yes (w : World) (h : MIs w y T z m) (hn : isF m.nx) : Calls Tryz.prog 19 #[.pointer (some ⟨z.M, 0, none⟩)] w fun e w' => e = .returned (.bool true) ∧ w' = w := by
  have c := h.c11
  obtain ⟨f, cap, hn⟩ := hn
  rw [hn] at c
  have hl := h.ltM
  have hqf : ∀ (f : FuncId) (cap : Array Value) (W : World), (binOp .neq 104 (.func (.func f) #[] cap) .nilFunc).run Tryz.prog W = .ok (.bool true) W := fun _ _ _ => by kernel_rfl
  clear h hn
  go_enter Tryz.func19, Tryz.ntmps19
  go_wp2_with fail
  go_ret
  exact ⟨rfl, rfl⟩
theorem mdone_yes (w : World) (h : MIs w y T z m) (hn : isF m.nx) : Calls Tryz.prog 20 #[.pointer (some ⟨z.M, 0, none⟩)] w fun e w' => e = .returned (.bool false) ∧ ∃ q, w' = w.drewN q := by
  have hl := h.ltM
  have HB := Lib.hid (fun q => mbusy_yes (w.drewN q) (h.later (below_drewN (Below.refl _ w) q)) hn)
  clear h hn
  go_enter Tryz.func20, Tryz.ntmps20
  go_wp2_with fail
  go_quiet ((go_at_call 19; exact Calls.quiet_of_same (HB.out _)))
  go_wp2_with fail
  go_ret
  exact ⟨rfl, _, rfl⟩
theorem mdone_no (w : World) (h : MIs w y T z m) (hn : m.nx = .nilFunc) : Calls Tryz.prog 20 #[.pointer (some ⟨z.M, 0, none⟩)] w fun e w' => e = .returned (.bool (decide (m.rs.length = m.pg.length))) ∧ ∃ q, w' = w.drewN q := by
  have hl := h.ltM
  have c8 := h.c8
  have c9 := h.c9
  have HB := Lib.hid (fun q => mbusy_no (w.drewN q) (h.later (below_drewN (Below.refl _ w) q)) hn)
  clear h hn
  go_enter Tryz.func20, Tryz.ntmps20
  go_wp2_with fail
  go_quiet ((go_at_call 19; exact Calls.quiet_of_same (HB.out _)))
  go_wp2_with fail
  go_ret
  refine ⟨?_, _, rfl⟩
  have e : ((m.rs.length : Int) == (m.pg.length : Int)) = decide (m.rs.length = m.pg.length) := by
    rw [Bool.eq_iff_iff]
    simp
    omega
  exact congrArg (fun b => Ending.returned (Value.bool b)) e
end
end Go.Proofs.YthpgnlcmpoldfaaGreatDoor.Mu
