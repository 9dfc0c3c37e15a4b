/-
  The law AddrFind answers true, for every config, class and address.
-/
import Derived.Test.YtgmakcoodgpjlaaDoorAddrF
import Derived.Test.YtgmakcoodgpjlaaDoorAddrG
namespace Go.Proofs.YtgmakcoodgpjlaaDoor.Addr
open Go.RowKit Go.Sort
open Class (SizTab isB sizI perI isB_true isB_false sizI_bd perI_yes perI_noC perI_noW wordsB wordsB_true quiet_left below_drewN)

theorem guardPlace : Tryd.prog.eqGuardType Tryd.prog.depth 38 = false := by kernel_rfl
theorem run_neq_place (x y z x' y' z' : Int) (w : World) :
    (binOp .neq 38 (.agg #[.int .i64 x, .int .i64 y, .int .i64 z]) (.agg #[.int .i64 x', .int .i64 y', .int .i64 z'])).run Tryd.prog w = .ok (.bool (!(x == x' && (y == y' && z == z')))) w := by
  have hp : Tryd.prog.stoodInHeld 38 = false := by kernel_rfl
  have hu := Tryd.underlying38
  have h3 := Tryd.underlying3
  have c3 : Tryd.prog.cellsOf 3 = 1 := by kernel_rfl
  rw [run_neq_struct, run_equalIn_agg _ _ _ _ _ (by unfold Program.fieldsOf; rw [hu]) hp]
  unfold Program.fieldsOf
  rw [hu]
  simp only [Op.eqFields]
  simp [go_sem, h3, part]
  (repeat' split) <;> simp [*]
theorem run_neq_same (x y z : Int) (w : World) :
    (binOp .neq 38 (.agg #[.int .i64 x, .int .i64 y, .int .i64 z]) (.agg #[.int .i64 x, .int .i64 y, .int .i64 z])).run Tryd.prog w = .ok (.bool false) w := by
  rw [run_neq_place]; simp


set_option maxHeartbeats 8000000 in
theorem findlaw_0 (b wd m r ce lg st k a q x y z : Int) (w : World) (ht : Tabs w) (hf : finB (rightB b wd m r ce lg st) b wd k a = false) (hv : findV (rightB b wd m r ce lg st) b wd k a = (x, y, z))
    (hA : adrB (rightB b wd m r ce lg st) b wd a = false) (hq : blockI (rightB b wd m r ce lg st) b wd a = q) (hrr : refRightB b wd m r ce lg st = false) (hq0 : q = 0) :
    Calls Tryd.prog 8 #[.agg #[.int .i64 b, .int .i64 wd, .int .i64 m, .int .i64 r, .int .i64 ce, .int .i64 lg, .int .i64 st], .int .i64 k, .int .i64 a] w fun e w' => e = .returned (.bool true) ∧ Below w.heap.size w w' := by
  subst hq0
  have HT := Lib.hid ht
  have HF := Lib.hid hf
  have HV := Lib.hid hv
  have HA := Lib.hid hA
  have HQ := Lib.hid hq
  have hgd := guardPlace
  have hne := fun x y z w => run_neq_same x y z w
  clear ht hf hv hA hq
  go_enter Tryd.func8, Tryd.ntmps8
  go_wp2_with fail
  refine (find_any _ _ _ _ _ _ _ _ _ _ (HT.out.alloc _)).mono ?_
  rintro e w1 ⟨rfl, hb1⟩
  rw [HV.out, HF.out]
  obtain ⟨hc1, hf1⟩ := bcell hb1
  have z1 : w.heap.size < w1.heap.size := by have := hb1.size; simp at this; omega
  have HT1 := Lib.hid ((HT.out.alloc _).later hb1)
  have HB1 := Lib.hid (((Below.refl _ w).alloc (Nat.le_refl _) _).trans (hb1.mono (by simp)))
  clear hb1
  go_wp2_with fail
  refine (reffind_any _ _ _ _ _ _ _ _ _ _).mono ?_
  rintro e w2 ⟨rfl, hb2⟩
  rw [HV.out, HF.out]
  obtain ⟨hc2, hf2⟩ := bcell hb2
  have z2 : w1.heap.size < w2.heap.size := by have := hb2.size; simp at this; omega
  have z2' : w.heap.size < w2.heap.size := by omega
  have HT2 := Lib.hid ((HT1.out.alloc _).later hb2)
  have HB2 := Lib.hid ((HB1.out.alloc (by omega) _).trans (hb2.mono (by simp; omega)))
  clear hb2
  go_wp2_with fail
  refine (block_any _ _ _ _ _ _ _ _ _ (HT2.out.alloc _).lim).mono ?_
  rintro e w3 ⟨rfl, hb3⟩
  rw [HQ.out, HA.out]
  obtain ⟨hc3, hf3⟩ := bcell hb3
  have z3 : w2.heap.size < w3.heap.size := by have := hb3.size; simp at this; omega
  have z3' : w1.heap.size < w3.heap.size := by omega
  have z3'' : w.heap.size < w3.heap.size := by omega
  have HT3 := Lib.hid ((HT2.out.alloc _).later hb3)
  have HB3 := Lib.hid ((HB2.out.alloc (by omega) _).trans (hb3.mono (by simp; omega)))
  clear hb3
  go_wp2_with fail
  refine (refright_any _ _ _ _ _ _ _ _).mono ?_
  rintro e w4 ⟨rfl, hb4⟩
  rw [hrr]
  obtain ⟨hc4, hf4⟩ := bcell hb4
  have z4 : w2.heap.size < w4.heap.size := by have := hb4.size; omega
  have z4' : w1.heap.size < w4.heap.size := by omega
  have z4'' : w.heap.size < w4.heap.size := by omega
  have HT4 := Lib.hid (HT3.out.later hb4)
  have HB4 := Lib.hid (HB3.out.trans (hb4.mono (by omega)))
  clear hb4
  go_wp2_with (go_at_call 27; refine (awake_any _ HT4.out).mono ?_; rintro e w5 ⟨rfl, hb5⟩)
  go_ret
  exact ⟨rfl, HB4.out.trans (hb5.mono (by omega))⟩

set_option maxHeartbeats 8000000 in
theorem findlaw_1 (b wd m r ce lg st k a q x y z : Int) (w : World) (ht : Tabs w) (hf : finB (rightB b wd m r ce lg st) b wd k a = false) (hv : findV (rightB b wd m r ce lg st) b wd k a = (x, y, z))
    (hA : adrB (rightB b wd m r ce lg st) b wd a = false) (hq : blockI (rightB b wd m r ce lg st) b wd a = q) (hrr : refRightB b wd m r ce lg st = true) (hq0 : q = 0) (h1 : a < 1) :
    Calls Tryd.prog 8 #[.agg #[.int .i64 b, .int .i64 wd, .int .i64 m, .int .i64 r, .int .i64 ce, .int .i64 lg, .int .i64 st], .int .i64 k, .int .i64 a] w fun e w' => e = .returned (.bool true) ∧ Below w.heap.size w w' := by
  subst hq0
  have HT := Lib.hid ht
  have HF := Lib.hid hf
  have HV := Lib.hid hv
  have HA := Lib.hid hA
  have HQ := Lib.hid hq
  have hgd := guardPlace
  have hne := fun x y z w => run_neq_same x y z w
  clear ht hf hv hA hq
  go_enter Tryd.func8, Tryd.ntmps8
  go_wp2_with fail
  refine (find_any _ _ _ _ _ _ _ _ _ _ (HT.out.alloc _)).mono ?_
  rintro e w1 ⟨rfl, hb1⟩
  rw [HV.out, HF.out]
  obtain ⟨hc1, hf1⟩ := bcell hb1
  have z1 : w.heap.size < w1.heap.size := by have := hb1.size; simp at this; omega
  have HT1 := Lib.hid ((HT.out.alloc _).later hb1)
  have HB1 := Lib.hid (((Below.refl _ w).alloc (Nat.le_refl _) _).trans (hb1.mono (by simp)))
  clear hb1
  go_wp2_with fail
  refine (reffind_any _ _ _ _ _ _ _ _ _ _).mono ?_
  rintro e w2 ⟨rfl, hb2⟩
  rw [HV.out, HF.out]
  obtain ⟨hc2, hf2⟩ := bcell hb2
  have z2 : w1.heap.size < w2.heap.size := by have := hb2.size; simp at this; omega
  have z2' : w.heap.size < w2.heap.size := by omega
  have HT2 := Lib.hid ((HT1.out.alloc _).later hb2)
  have HB2 := Lib.hid ((HB1.out.alloc (by omega) _).trans (hb2.mono (by simp; omega)))
  clear hb2
  go_wp2_with fail
  refine (block_any _ _ _ _ _ _ _ _ _ (HT2.out.alloc _).lim).mono ?_
  rintro e w3 ⟨rfl, hb3⟩
  rw [HQ.out, HA.out]
  obtain ⟨hc3, hf3⟩ := bcell hb3
  have z3 : w2.heap.size < w3.heap.size := by have := hb3.size; simp at this; omega
  have z3' : w1.heap.size < w3.heap.size := by omega
  have z3'' : w.heap.size < w3.heap.size := by omega
  have HT3 := Lib.hid ((HT2.out.alloc _).later hb3)
  have HB3 := Lib.hid ((HB2.out.alloc (by omega) _).trans (hb3.mono (by simp; omega)))
  clear hb3
  go_wp2_with fail
  refine (refright_any _ _ _ _ _ _ _ _).mono ?_
  rintro e w4 ⟨rfl, hb4⟩
  rw [hrr]
  obtain ⟨hc4, hf4⟩ := bcell hb4
  have z4 : w2.heap.size < w4.heap.size := by have := hb4.size; omega
  have z4' : w1.heap.size < w4.heap.size := by omega
  have z4'' : w.heap.size < w4.heap.size := by omega
  have HT4 := Lib.hid (HT3.out.later hb4)
  have HB4 := Lib.hid (HB3.out.trans (hb4.mono (by omega)))
  clear hb4
  go_wp2_with (go_at_call 27; refine (awake_any _ HT4.out).mono ?_; rintro e w5 ⟨rfl, hb5⟩)
  go_ret
  exact ⟨rfl, HB4.out.trans (hb5.mono (by omega))⟩

set_option maxHeartbeats 8000000 in
theorem findlaw_2 (b wd m r ce lg st k a q x y z : Int) (w : World) (ht : Tabs w) (hf : finB (rightB b wd m r ce lg st) b wd k a = false) (hv : findV (rightB b wd m r ce lg st) b wd k a = (x, y, z))
    (hA : adrB (rightB b wd m r ce lg st) b wd a = false) (hq : blockI (rightB b wd m r ce lg st) b wd a = q) (hrr : refRightB b wd m r ce lg st = true) (hq0 : q = 0) (h1 : 1 ≤ a) (h2 : b * wd < a) (p0 : 0 ≤ b * wd) (p1 : b * wd ≤ 1048576) :
    Calls Tryd.prog 8 #[.agg #[.int .i64 b, .int .i64 wd, .int .i64 m, .int .i64 r, .int .i64 ce, .int .i64 lg, .int .i64 st], .int .i64 k, .int .i64 a] w fun e w' => e = .returned (.bool true) ∧ Below w.heap.size w w' := by
  subst hq0
  have HT := Lib.hid ht
  have HF := Lib.hid hf
  have HV := Lib.hid hv
  have HA := Lib.hid hA
  have HQ := Lib.hid hq
  have hgd := guardPlace
  have hne := fun x y z w => run_neq_same x y z w
  clear ht hf hv hA hq
  go_enter Tryd.func8, Tryd.ntmps8
  go_wp2_with fail
  refine (find_any _ _ _ _ _ _ _ _ _ _ (HT.out.alloc _)).mono ?_
  rintro e w1 ⟨rfl, hb1⟩
  rw [HV.out, HF.out]
  obtain ⟨hc1, hf1⟩ := bcell hb1
  have z1 : w.heap.size < w1.heap.size := by have := hb1.size; simp at this; omega
  have HT1 := Lib.hid ((HT.out.alloc _).later hb1)
  have HB1 := Lib.hid (((Below.refl _ w).alloc (Nat.le_refl _) _).trans (hb1.mono (by simp)))
  clear hb1
  go_wp2_with fail
  refine (reffind_any _ _ _ _ _ _ _ _ _ _).mono ?_
  rintro e w2 ⟨rfl, hb2⟩
  rw [HV.out, HF.out]
  obtain ⟨hc2, hf2⟩ := bcell hb2
  have z2 : w1.heap.size < w2.heap.size := by have := hb2.size; simp at this; omega
  have z2' : w.heap.size < w2.heap.size := by omega
  have HT2 := Lib.hid ((HT1.out.alloc _).later hb2)
  have HB2 := Lib.hid ((HB1.out.alloc (by omega) _).trans (hb2.mono (by simp; omega)))
  clear hb2
  go_wp2_with fail
  refine (block_any _ _ _ _ _ _ _ _ _ (HT2.out.alloc _).lim).mono ?_
  rintro e w3 ⟨rfl, hb3⟩
  rw [HQ.out, HA.out]
  obtain ⟨hc3, hf3⟩ := bcell hb3
  have z3 : w2.heap.size < w3.heap.size := by have := hb3.size; simp at this; omega
  have z3' : w1.heap.size < w3.heap.size := by omega
  have z3'' : w.heap.size < w3.heap.size := by omega
  have HT3 := Lib.hid ((HT2.out.alloc _).later hb3)
  have HB3 := Lib.hid ((HB2.out.alloc (by omega) _).trans (hb3.mono (by simp; omega)))
  clear hb3
  go_wp2_with fail
  refine (refright_any _ _ _ _ _ _ _ _).mono ?_
  rintro e w4 ⟨rfl, hb4⟩
  rw [hrr]
  obtain ⟨hc4, hf4⟩ := bcell hb4
  have z4 : w2.heap.size < w4.heap.size := by have := hb4.size; omega
  have z4' : w1.heap.size < w4.heap.size := by omega
  have z4'' : w.heap.size < w4.heap.size := by omega
  have HT4 := Lib.hid (HT3.out.later hb4)
  have HB4 := Lib.hid (HB3.out.trans (hb4.mono (by omega)))
  clear hb4
  go_wp2_with (go_at_call 27; refine (awake_any _ HT4.out).mono ?_; rintro e w5 ⟨rfl, hb5⟩)
  go_ret
  exact ⟨rfl, HB4.out.trans (hb5.mono (by omega))⟩

set_option maxHeartbeats 8000000 in
theorem findlaw_3 (b wd m r ce lg st k a q x y z : Int) (w : World) (ht : Tabs w) (hf : finB (rightB b wd m r ce lg st) b wd k a = false) (hv : findV (rightB b wd m r ce lg st) b wd k a = (x, y, z))
    (hA : adrB (rightB b wd m r ce lg st) b wd a = true) (hq : blockI (rightB b wd m r ce lg st) b wd a = q) (hrr : refRightB b wd m r ce lg st = true) (h1 : 1 ≤ a) (h2 : a ≤ b * wd) (p0 : 0 ≤ b * wd) (p1 : b * wd ≤ 1048576) (q0 : 0 ≤ q * wd) (q1 : q * wd < a) (q2 : a ≤ (q + 1) * wd) (q3 : (q + 1) * wd ≤ 1048576) (q4 : 0 ≤ q) (q5 : q ≤ 4096) :
    Calls Tryd.prog 8 #[.agg #[.int .i64 b, .int .i64 wd, .int .i64 m, .int .i64 r, .int .i64 ce, .int .i64 lg, .int .i64 st], .int .i64 k, .int .i64 a] w fun e w' => e = .returned (.bool true) ∧ Below w.heap.size w w' := by
  have HT := Lib.hid ht
  have HF := Lib.hid hf
  have HV := Lib.hid hv
  have HA := Lib.hid hA
  have HQ := Lib.hid hq
  have hgd := guardPlace
  have hne := fun x y z w => run_neq_same x y z w
  clear ht hf hv hA hq
  go_enter Tryd.func8, Tryd.ntmps8
  go_wp2_with fail
  refine (find_any _ _ _ _ _ _ _ _ _ _ (HT.out.alloc _)).mono ?_
  rintro e w1 ⟨rfl, hb1⟩
  rw [HV.out, HF.out]
  obtain ⟨hc1, hf1⟩ := bcell hb1
  have z1 : w.heap.size < w1.heap.size := by have := hb1.size; simp at this; omega
  have HT1 := Lib.hid ((HT.out.alloc _).later hb1)
  have HB1 := Lib.hid (((Below.refl _ w).alloc (Nat.le_refl _) _).trans (hb1.mono (by simp)))
  clear hb1
  go_wp2_with fail
  refine (reffind_any _ _ _ _ _ _ _ _ _ _).mono ?_
  rintro e w2 ⟨rfl, hb2⟩
  rw [HV.out, HF.out]
  obtain ⟨hc2, hf2⟩ := bcell hb2
  have z2 : w1.heap.size < w2.heap.size := by have := hb2.size; simp at this; omega
  have z2' : w.heap.size < w2.heap.size := by omega
  have HT2 := Lib.hid ((HT1.out.alloc _).later hb2)
  have HB2 := Lib.hid ((HB1.out.alloc (by omega) _).trans (hb2.mono (by simp; omega)))
  clear hb2
  go_wp2_with fail
  refine (block_any _ _ _ _ _ _ _ _ _ (HT2.out.alloc _).lim).mono ?_
  rintro e w3 ⟨rfl, hb3⟩
  rw [HQ.out, HA.out]
  obtain ⟨hc3, hf3⟩ := bcell hb3
  have z3 : w2.heap.size < w3.heap.size := by have := hb3.size; simp at this; omega
  have z3' : w1.heap.size < w3.heap.size := by omega
  have z3'' : w.heap.size < w3.heap.size := by omega
  have HT3 := Lib.hid ((HT2.out.alloc _).later hb3)
  have HB3 := Lib.hid ((HB2.out.alloc (by omega) _).trans (hb3.mono (by simp; omega)))
  clear hb3
  go_wp2_with fail
  refine (refright_any _ _ _ _ _ _ _ _).mono ?_
  rintro e w4 ⟨rfl, hb4⟩
  rw [hrr]
  obtain ⟨hc4, hf4⟩ := bcell hb4
  have z4 : w2.heap.size < w4.heap.size := by have := hb4.size; omega
  have z4' : w1.heap.size < w4.heap.size := by omega
  have z4'' : w.heap.size < w4.heap.size := by omega
  have HT4 := Lib.hid (HT3.out.later hb4)
  have HB4 := Lib.hid (HB3.out.trans (hb4.mono (by omega)))
  clear hb4
  go_wp2_with (go_at_call 27; refine (awake_any _ HT4.out).mono ?_; rintro e w5 ⟨rfl, hb5⟩)
  go_ret
  exact ⟨rfl, HB4.out.trans (hb5.mono (by omega))⟩

set_option maxHeartbeats 8000000 in
theorem findlaw_4 (b wd m r ce lg st k a q x y z : Int) (w : World) (ht : Tabs w) (hf : finB (rightB b wd m r ce lg st) b wd k a = true) (hv : findV (rightB b wd m r ce lg st) b wd k a = (x, y, z))
    (hA : adrB (rightB b wd m r ce lg st) b wd a = true) (hq : blockI (rightB b wd m r ce lg st) b wd a = q) (hrr : refRightB b wd m r ce lg st = true) (h1 : 1 ≤ a) (h2 : a ≤ b * wd) (p0 : 0 ≤ b * wd) (p1 : b * wd ≤ 1048576) (q0 : 0 ≤ q * wd) (q1 : q * wd < a) (q2 : a ≤ (q + 1) * wd) (q3 : (q + 1) * wd ≤ 1048576) (q4 : 0 ≤ q) (q5 : q ≤ 4096) (hx : x = q) (hO : ofI (rightB b wd m r ce lg st) b wd k x y z = a) (hOB : ofB (rightB b wd m r ce lg st) b wd k x y z = true) :
    Calls Tryd.prog 8 #[.agg #[.int .i64 b, .int .i64 wd, .int .i64 m, .int .i64 r, .int .i64 ce, .int .i64 lg, .int .i64 st], .int .i64 k, .int .i64 a] w fun e w' => e = .returned (.bool true) ∧ Below w.heap.size w w' := by
  subst hx
  have HO := Lib.hid hO
  have HOB := Lib.hid hOB
  clear hO hOB
  have HT := Lib.hid ht
  have HF := Lib.hid hf
  have HV := Lib.hid hv
  have HA := Lib.hid hA
  have HQ := Lib.hid hq
  have hgd := guardPlace
  have hne := fun x y z w => run_neq_same x y z w
  clear ht hf hv hA hq
  go_enter Tryd.func8, Tryd.ntmps8
  go_wp2_with fail
  refine (find_any _ _ _ _ _ _ _ _ _ _ (HT.out.alloc _)).mono ?_
  rintro e w1 ⟨rfl, hb1⟩
  rw [HV.out, HF.out]
  obtain ⟨hc1, hf1⟩ := bcell hb1
  have z1 : w.heap.size < w1.heap.size := by have := hb1.size; simp at this; omega
  have HT1 := Lib.hid ((HT.out.alloc _).later hb1)
  have HB1 := Lib.hid (((Below.refl _ w).alloc (Nat.le_refl _) _).trans (hb1.mono (by simp)))
  clear hb1
  go_wp2_with fail
  refine (reffind_any _ _ _ _ _ _ _ _ _ _).mono ?_
  rintro e w2 ⟨rfl, hb2⟩
  rw [HV.out, HF.out]
  obtain ⟨hc2, hf2⟩ := bcell hb2
  have z2 : w1.heap.size < w2.heap.size := by have := hb2.size; simp at this; omega
  have z2' : w.heap.size < w2.heap.size := by omega
  have HT2 := Lib.hid ((HT1.out.alloc _).later hb2)
  have HB2 := Lib.hid ((HB1.out.alloc (by omega) _).trans (hb2.mono (by simp; omega)))
  clear hb2
  go_wp2_with fail
  refine (block_any _ _ _ _ _ _ _ _ _ (HT2.out.alloc _).lim).mono ?_
  rintro e w3 ⟨rfl, hb3⟩
  rw [HQ.out, HA.out]
  obtain ⟨hc3, hf3⟩ := bcell hb3
  have z3 : w2.heap.size < w3.heap.size := by have := hb3.size; simp at this; omega
  have z3' : w1.heap.size < w3.heap.size := by omega
  have z3'' : w.heap.size < w3.heap.size := by omega
  have HT3 := Lib.hid ((HT2.out.alloc _).later hb3)
  have HB3 := Lib.hid ((HB2.out.alloc (by omega) _).trans (hb3.mono (by simp; omega)))
  clear hb3
  go_wp2_with fail
  refine (refright_any _ _ _ _ _ _ _ _).mono ?_
  rintro e w4 ⟨rfl, hb4⟩
  rw [hrr]
  obtain ⟨hc4, hf4⟩ := bcell hb4
  have z4 : w2.heap.size < w4.heap.size := by have := hb4.size; omega
  have z4' : w1.heap.size < w4.heap.size := by omega
  have z4'' : w.heap.size < w4.heap.size := by omega
  have HT4 := Lib.hid (HT3.out.later hb4)
  have HB4 := Lib.hid (HB3.out.trans (hb4.mono (by omega)))
  clear hb4
  go_wp2_with fail
  refine (of_any _ _ _ _ _ _ _ _ _ _ _ _ HT4.out).mono ?_
  rintro e w5 ⟨rfl, hb5⟩
  rw [HO.out, HOB.out]
  obtain ⟨hc5, hf5⟩ := bcell hb5
  have HT5 := Lib.hid (HT4.out.later hb5)
  have z5 : w1.heap.size < w5.heap.size := by have := hb5.size; omega
  have HB5 := Lib.hid (HB4.out.trans (hb5.mono (by omega)))
  clear hb5
  go_wp2_with (go_at_call 27; refine (awake_any _ HT5.out).mono ?_; rintro e w6 ⟨rfl, hb6⟩)
  go_ret
  exact ⟨rfl, HB5.out.trans (hb6.mono (by have := HB5.out.size; omega))⟩
end Go.Proofs.YtgmakcoodgpjlaaDoor.Addr
