/-
  The law AddrApart answers true, for every config, class and two places.
-/
import Derived.Test.YtgmakcoodgpjlaaDoorAddrC
import Derived.Test.YtgmakcoodgpjlaaDoorAddrG
namespace Go.Proofs.YtgmakcoodgpjlaaDoor.Addr
open Go.RowKit Go.Sort
open Class (SizTab isB sizI perI isB_true isB_false sizI_bd perI_yes perI_noC perI_noW wordsB wordsB_true quiet_left below_drewN)

theorem guardPlace2 : Tryd.prog.eqGuardType Tryd.prog.depth 38 = false := by kernel_rfl
theorem run_eql_place (x y z x' y' z' : Int) (w : World) :
    (binOp .eql 38 (.agg #[.int .i64 x, .int .i64 y, .int .i64 z]) (.agg #[.int .i64 x', .int .i64 y', .int .i64 z'])).run Tryd.prog w = .ok (.bool (x == x' && (y == y' && z == z'))) w := by
  have hp : Tryd.prog.stoodInHeld 38 = false := by kernel_rfl
  have hu := Tryd.underlying38
  have h3 := Tryd.underlying3
  have c3 : Tryd.prog.cellsOf 3 = 1 := by kernel_rfl
  rw [run_eql_struct, run_equalIn_agg _ _ _ _ _ (by unfold Program.fieldsOf; rw [hu]) hp]
  unfold Program.fieldsOf
  rw [hu]
  simp only [Op.eqFields]
  simp [go_sem, h3, part]
  (repeat' split) <;> simp [*]
theorem run_eql_placeB {x y z x' y' z' : Int} {e : Bool} (h : (x == x' && (y == y' && z == z')) = e) (w : World) :
    (binOp .eql 38 (.agg #[.int .i64 x, .int .i64 y, .int .i64 z]) (.agg #[.int .i64 x', .int .i64 y', .int .i64 z'])).run Tryd.prog w = .ok (.bool e) w := by
  rw [run_eql_place, h]

/-- What a place that there is says of its address. -/
theorem of_parts {b wd m r ce lg st k x y z : Int} (h : ofB (rightB b wd m r ce lg st) b wd k x y z = true) :
    ∃ a : Int, ofI (rightB b wd m r ce lg st) b wd k x y z = a ∧ slotI (rightB b wd m r ce lg st) b wd k x y = a - z ∧ adrB (rightB b wd m r ce lg st) b wd a = true ∧ blockI (rightB b wd m r ce lg st) b wd a = x ∧ offI wd a = y * sizI k + z ∧ 0 ≤ z ∧ z < sizI k ∧ 1 ≤ a ∧ a ≤ 1048576 := by
  obtain ⟨hs, z0, z1⟩ := ofB_true.1 h
  obtain ⟨hr, hb, y0, y1⟩ := sltB_true.1 hs
  have hR : RightC b wd m r ce lg st := refRightB_true.1 ((rightB_ref ..).symm.trans hr)
  obtain ⟨x0, x1⟩ := blkB_true.1 hb
  obtain ⟨p0, p1⟩ := first_bd hR hb
  obtain ⟨_, s0, s1, m0, m1, m2⟩ := slot_bd y0 y1
  obtain ⟨q0, q1⟩ := hR.words
  have hwd := hR.wd0
  have e1 : (x + 1) * wd = x * wd + wd := by rw [Int.add_mul, Int.one_mul]
  have e2 : (x + 1) * wd ≤ b * wd := Int.mul_le_mul_of_nonneg_right (by omega) (by omega)
  have hA : adrB (rightB b wd m r ce lg st) b wd (x * wd + 1 + y * sizI k + z) = true := adrB_true.2 ⟨hr, by omega, by omega⟩
  have e3 : x * wd + 1 + y * sizI k + z - 1 = (y * sizI k + z) + x * wd := by omega
  refine ⟨x * wd + 1 + y * sizI k + z, ofI_yes h, by rw [slotI_yes hs]; omega, hA, ?_, ?_, z0, z1, by omega, by omega⟩
  · rw [blockI_yes hA, e3, Int.add_mul_ediv_right _ _ (by omega), Int.ediv_eq_zero_of_lt (by omega) (by omega), Int.zero_add]
  · unfold offI
    rw [e3, Int.add_mul_emod_self_right, Int.emod_eq_of_lt (by omega) (by omega)]

theorem of_inj {b wd m r ce lg st k x y z x' y' z' : Int} (h : ofB (rightB b wd m r ce lg st) b wd k x y z = true) (h' : ofB (rightB b wd m r ce lg st) b wd k x' y' z' = true)
    (e : ofI (rightB b wd m r ce lg st) b wd k x y z = ofI (rightB b wd m r ce lg st) b wd k x' y' z') : x = x' ∧ y = y' ∧ z = z' := by
  obtain ⟨a, ha, _, _, hb, ho, z0, z1, _, _⟩ := of_parts h
  obtain ⟨a', ha', _, _, hb', ho', z0', z1', _, _⟩ := of_parts h'
  have haa : a = a' := by rw [← ha, ← ha', e]
  subst haa
  have hs : 0 < sizI k := by omega
  have hy : y = y' := by
    have q1 : (y * sizI k + z) / sizI k = y := by rw [Int.add_comm, Int.add_mul_ediv_right _ _ (by omega), Int.ediv_eq_zero_of_lt z0 z1, Int.zero_add]
    have q2 : (y' * sizI k + z') / sizI k = y' := by rw [Int.add_comm, Int.add_mul_ediv_right _ _ (by omega), Int.ediv_eq_zero_of_lt z0' z1', Int.zero_add]
    rw [← q1, ← q2, ← ho, ← ho']
  subst hy
  exact ⟨hb.symm.trans hb', rfl, by omega⟩

theorem slot_lit (b wd m r ce lg st k block slot sl : Int) (hsl : slotI (rightB b wd m r ce lg st) b wd k block slot = sl) : ∀ W, Tabs W →
    Calls Tryd.prog 23 #[.agg #[.int .i64 b, .int .i64 wd, .int .i64 m, .int .i64 r, .int .i64 ce, .int .i64 lg, .int .i64 st], .int .i64 k, .int .i64 block, .int .i64 slot] W
      fun e w' => e = .returned (.int .i64 sl) ∧ Below W.heap.size W w' := fun W hW => by
  have := slot_any b wd m r ce lg st k block slot W hW
  rw [hsl] at this
  exact this

theorem three_boxes {w W0 : World} {t t' : TypeId} {b wd m r ce lg st x y z x' y' z' : Int}
    (hW : (w.alloc (.cells #[.int .i64 b, .int .i64 wd, .int .i64 m, .int .i64 r, .int .i64 ce, .int .i64 lg, .int .i64 st] t)).alloc (.cells #[.int .i64 x, .int .i64 y, .int .i64 z, .int .i64 x', .int .i64 y', .int .i64 z'] t') = W0) :
    (W0.heap.size = w.heap.size + 2 ∧ Below w.heap.size w W0) ∧ (W0.cell? ⟨w.heap.size, 0, none⟩ = some (.int .i64 b) ∧ W0.cell? ⟨w.heap.size, 1, none⟩ = some (.int .i64 wd) ∧ W0.cell? ⟨w.heap.size, 2, none⟩ = some (.int .i64 m) ∧ W0.cell? ⟨w.heap.size, 3, none⟩ = some (.int .i64 r)
      ∧ W0.cell? ⟨w.heap.size, 4, none⟩ = some (.int .i64 ce) ∧ W0.cell? ⟨w.heap.size, 5, none⟩ = some (.int .i64 lg) ∧ W0.cell? ⟨w.heap.size, 6, none⟩ = some (.int .i64 st))
    ∧ (W0.cell? ⟨w.heap.size + 1, 0, none⟩ = some (.int .i64 x) ∧ W0.cell? ⟨w.heap.size + 1, 1, none⟩ = some (.int .i64 y) ∧ W0.cell? ⟨w.heap.size + 1, 2, none⟩ = some (.int .i64 z)
      ∧ W0.cell? ⟨w.heap.size + 1, 3, none⟩ = some (.int .i64 x') ∧ W0.cell? ⟨w.heap.size + 1, 4, none⟩ = some (.int .i64 y') ∧ W0.cell? ⟨w.heap.size + 1, 5, none⟩ = some (.int .i64 z')) := by
  subst hW
  refine ⟨⟨by simp, ((Below.refl _ _).alloc (Nat.le_refl _) _).alloc (by simp) _⟩, ⟨?_, ?_, ?_, ?_, ?_, ?_, ?_⟩, ?_, ?_, ?_, ?_, ?_, ?_⟩ <;> go_simp


set_option maxHeartbeats 8000000 in
theorem apart_0 (b wd m r ce lg st k x y z x' y' z' a a' : Int) (w : World) (ht : Tabs w) (ho : ofB (rightB b wd m r ce lg st) b wd k x y z = false) (ho' : ofB (rightB b wd m r ce lg st) b wd k x' y' z' = false)
    (ha : ofI (rightB b wd m r ce lg st) b wd k x y z = a) (ha' : ofI (rightB b wd m r ce lg st) b wd k x' y' z' = a') (e0 : a = 0) (e1 : a' = 0) :
    Calls Tryd.prog 9 #[.agg #[.int .i64 b, .int .i64 wd, .int .i64 m, .int .i64 r, .int .i64 ce, .int .i64 lg, .int .i64 st], .int .i64 k, .agg #[.int .i64 x, .int .i64 y, .int .i64 z, .int .i64 x', .int .i64 y', .int .i64 z']] w fun e w' => e = .returned (.bool true) ∧ Below w.heap.size w w' := by
  subst e0
  subst e1
  have HT := Lib.hid ht
  have HO := Lib.hid ho
  have HO2 := Lib.hid ho'
  have HA := Lib.hid ha
  have HA2 := Lib.hid ha'
  clear ht ho ho' ha ha'
  go_enter Tryd.func9, Tryd.ntmps9
  go_wp2_with fail
  refine (of_any _ _ _ _ _ _ _ _ _ _ _ _ (by repeat (first | exact HT.out | apply Tabs.alloc))).mono ?_
  rintro e w1 ⟨rfl, hb1⟩
  rw [HO.out, HA.out]
  obtain ⟨hc1, hf1⟩ := bcell hb1
  have z1 : w.heap.size + 1 < w1.heap.size := by have := hb1.size; simp at this; omega
  have z1' : w.heap.size < w1.heap.size := by omega
  have HT1 := Lib.hid (((HT.out.alloc _).alloc _).later hb1)
  have HB1 := Lib.hid ((((Below.refl _ w).alloc (Nat.le_refl _) _).alloc (by simp) _).trans (hb1.mono (by simp; omega)))
  clear hb1
  go_wp2_with fail
  refine (of_any _ _ _ _ _ _ _ _ _ _ _ _ HT1.out).mono ?_
  rintro e w2 ⟨rfl, hb2⟩
  rw [HO2.out, HA2.out]
  obtain ⟨hc2, hf2⟩ := bcell hb2
  have z2 : w.heap.size + 1 < w2.heap.size := by have := hb2.size; omega
  have z2' : w.heap.size < w2.heap.size := by omega
  have HT2 := Lib.hid (HT1.out.later hb2)
  have HB2 := Lib.hid (HB1.out.trans (hb2.mono (by omega)))
  clear hb2
  go_wp2_with (go_at_call 27; refine (awake_any _ HT2.out).mono ?_; rintro e w5 ⟨rfl, hb5⟩)
  go_ret
  exact ⟨rfl, HB2.out.trans (hb5.mono (by omega))⟩

set_option maxHeartbeats 8000000 in
theorem apart_1 (b wd m r ce lg st k x y z x' y' z' a a' : Int) (w : World) (ht : Tabs w) (ho : ofB (rightB b wd m r ce lg st) b wd k x y z = false) (ho' : ofB (rightB b wd m r ce lg st) b wd k x' y' z' = true)
    (ha : ofI (rightB b wd m r ce lg st) b wd k x y z = a) (ha' : ofI (rightB b wd m r ce lg st) b wd k x' y' z' = a') (e0 : a = 0) :
    Calls Tryd.prog 9 #[.agg #[.int .i64 b, .int .i64 wd, .int .i64 m, .int .i64 r, .int .i64 ce, .int .i64 lg, .int .i64 st], .int .i64 k, .agg #[.int .i64 x, .int .i64 y, .int .i64 z, .int .i64 x', .int .i64 y', .int .i64 z']] w fun e w' => e = .returned (.bool true) ∧ Below w.heap.size w w' := by
  subst e0
  have HT := Lib.hid ht
  have HO := Lib.hid ho
  have HO2 := Lib.hid ho'
  have HA := Lib.hid ha
  have HA2 := Lib.hid ha'
  clear ht ho ho' ha ha'
  go_enter Tryd.func9, Tryd.ntmps9
  go_wp2_with fail
  refine (of_any _ _ _ _ _ _ _ _ _ _ _ _ (by repeat (first | exact HT.out | apply Tabs.alloc))).mono ?_
  rintro e w1 ⟨rfl, hb1⟩
  rw [HO.out, HA.out]
  obtain ⟨hc1, hf1⟩ := bcell hb1
  have z1 : w.heap.size + 1 < w1.heap.size := by have := hb1.size; simp at this; omega
  have z1' : w.heap.size < w1.heap.size := by omega
  have HT1 := Lib.hid (((HT.out.alloc _).alloc _).later hb1)
  have HB1 := Lib.hid ((((Below.refl _ w).alloc (Nat.le_refl _) _).alloc (by simp) _).trans (hb1.mono (by simp; omega)))
  clear hb1
  go_wp2_with fail
  refine (of_any _ _ _ _ _ _ _ _ _ _ _ _ HT1.out).mono ?_
  rintro e w2 ⟨rfl, hb2⟩
  rw [HO2.out, HA2.out]
  obtain ⟨hc2, hf2⟩ := bcell hb2
  have z2 : w.heap.size + 1 < w2.heap.size := by have := hb2.size; omega
  have z2' : w.heap.size < w2.heap.size := by omega
  have HT2 := Lib.hid (HT1.out.later hb2)
  have HB2 := Lib.hid (HB1.out.trans (hb2.mono (by omega)))
  clear hb2
  go_wp2_with (go_at_call 27; refine (awake_any _ HT2.out).mono ?_; rintro e w5 ⟨rfl, hb5⟩)
  go_ret
  exact ⟨rfl, HB2.out.trans (hb5.mono (by omega))⟩

set_option maxHeartbeats 8000000 in
theorem apart_2 (b wd m r ce lg st k x y z x' y' z' a a' : Int) (w : World) (ht : Tabs w) (ho : ofB (rightB b wd m r ce lg st) b wd k x y z = true) (ho' : ofB (rightB b wd m r ce lg st) b wd k x' y' z' = false)
    (ha : ofI (rightB b wd m r ce lg st) b wd k x y z = a) (ha' : ofI (rightB b wd m r ce lg st) b wd k x' y' z' = a') (e1 : a' = 0) :
    Calls Tryd.prog 9 #[.agg #[.int .i64 b, .int .i64 wd, .int .i64 m, .int .i64 r, .int .i64 ce, .int .i64 lg, .int .i64 st], .int .i64 k, .agg #[.int .i64 x, .int .i64 y, .int .i64 z, .int .i64 x', .int .i64 y', .int .i64 z']] w fun e w' => e = .returned (.bool true) ∧ Below w.heap.size w w' := by
  subst e1
  have HT := Lib.hid ht
  have HO := Lib.hid ho
  have HO2 := Lib.hid ho'
  have HA := Lib.hid ha
  have HA2 := Lib.hid ha'
  clear ht ho ho' ha ha'
  go_enter Tryd.func9, Tryd.ntmps9
  go_wp2_with fail
  refine (of_any _ _ _ _ _ _ _ _ _ _ _ _ (by repeat (first | exact HT.out | apply Tabs.alloc))).mono ?_
  rintro e w1 ⟨rfl, hb1⟩
  rw [HO.out, HA.out]
  obtain ⟨hc1, hf1⟩ := bcell hb1
  have z1 : w.heap.size + 1 < w1.heap.size := by have := hb1.size; simp at this; omega
  have z1' : w.heap.size < w1.heap.size := by omega
  have HT1 := Lib.hid (((HT.out.alloc _).alloc _).later hb1)
  have HB1 := Lib.hid ((((Below.refl _ w).alloc (Nat.le_refl _) _).alloc (by simp) _).trans (hb1.mono (by simp; omega)))
  clear hb1
  go_wp2_with fail
  refine (of_any _ _ _ _ _ _ _ _ _ _ _ _ HT1.out).mono ?_
  rintro e w2 ⟨rfl, hb2⟩
  rw [HO2.out, HA2.out]
  obtain ⟨hc2, hf2⟩ := bcell hb2
  have z2 : w.heap.size + 1 < w2.heap.size := by have := hb2.size; omega
  have z2' : w.heap.size < w2.heap.size := by omega
  have HT2 := Lib.hid (HT1.out.later hb2)
  have HB2 := Lib.hid (HB1.out.trans (hb2.mono (by omega)))
  clear hb2
  go_wp2_with (go_at_call 27; refine (awake_any _ HT2.out).mono ?_; rintro e w5 ⟨rfl, hb5⟩)
  go_ret
  exact ⟨rfl, HB2.out.trans (hb5.mono (by omega))⟩

set_option maxHeartbeats 8000000 in
theorem apart_3 (b wd m r ce lg st k x y z x' y' z' a a' : Int) (w : World) (ht : Tabs w) (ho : ofB (rightB b wd m r ce lg st) b wd k x y z = true) (ho' : ofB (rightB b wd m r ce lg st) b wd k x' y' z' = true)
    (ha : ofI (rightB b wd m r ce lg st) b wd k x y z = a) (ha' : ofI (rightB b wd m r ce lg st) b wd k x' y' z' = a') (hq : blockI (rightB b wd m r ce lg st) b wd a = x) (hA : adrB (rightB b wd m r ce lg st) b wd a = true) (sl : Int) (hsl : slotI (rightB b wd m r ce lg st) b wd k x y = sl) (hsum : sl + z = a) (l0 : 0 ≤ sl) (l1 : sl ≤ 1048576) (l2 : 0 ≤ z) (l3 : z ≤ 16) (e : Bool) (he : (x == x' && (y == y' && z == z')) = e) (hae : (a == a') = e) :
    Calls Tryd.prog 9 #[.agg #[.int .i64 b, .int .i64 wd, .int .i64 m, .int .i64 r, .int .i64 ce, .int .i64 lg, .int .i64 st], .int .i64 k, .agg #[.int .i64 x, .int .i64 y, .int .i64 z, .int .i64 x', .int .i64 y', .int .i64 z']] w fun e w' => e = .returned (.bool true) ∧ Below w.heap.size w w' := by
  have HQ := Lib.hid hq
  have HD := Lib.hid hA
  have HSL := Lib.hid hsl
  have HE := Lib.hid he
  clear hq hA hsl he
  have HT := Lib.hid ht
  have HO := Lib.hid ho
  have HO2 := Lib.hid ho'
  have HA := Lib.hid ha
  have HA2 := Lib.hid ha'
  clear ht ho ho' ha ha'
  go_enter Tryd.func9, Tryd.ntmps9
  go_wp2_with fail
  refine (of_any _ _ _ _ _ _ _ _ _ _ _ _ (by repeat (first | exact HT.out | apply Tabs.alloc))).mono ?_
  rintro e w1 ⟨rfl, hb1⟩
  rw [HO.out, HA.out]
  obtain ⟨hc1, hf1⟩ := bcell hb1
  have z1 : w.heap.size + 1 < w1.heap.size := by have := hb1.size; simp at this; omega
  have z1' : w.heap.size < w1.heap.size := by omega
  have HT1 := Lib.hid (((HT.out.alloc _).alloc _).later hb1)
  have HB1 := Lib.hid ((((Below.refl _ w).alloc (Nat.le_refl _) _).alloc (by simp) _).trans (hb1.mono (by simp; omega)))
  clear hb1
  go_wp2_with fail
  refine (of_any _ _ _ _ _ _ _ _ _ _ _ _ HT1.out).mono ?_
  rintro e w2 ⟨rfl, hb2⟩
  rw [HO2.out, HA2.out]
  obtain ⟨hc2, hf2⟩ := bcell hb2
  have z2 : w.heap.size + 1 < w2.heap.size := by have := hb2.size; omega
  have z2' : w.heap.size < w2.heap.size := by omega
  have HT2 := Lib.hid (HT1.out.later hb2)
  have HB2 := Lib.hid (HB1.out.trans (hb2.mono (by omega)))
  clear hb2
  have d0 : w2.cell? ⟨w.heap.size, 0, none⟩ = some (.int .i64 b) := by rw [hc2 _ _ (by omega), hc1 _ _ (by simp; omega)]; go_simp
  have d1 : w2.cell? ⟨w.heap.size, 1, none⟩ = some (.int .i64 wd) := by rw [hc2 _ _ (by omega), hc1 _ _ (by simp; omega)]; go_simp
  have d2 : w2.cell? ⟨w.heap.size, 2, none⟩ = some (.int .i64 m) := by rw [hc2 _ _ (by omega), hc1 _ _ (by simp; omega)]; go_simp
  have d3 : w2.cell? ⟨w.heap.size, 3, none⟩ = some (.int .i64 r) := by rw [hc2 _ _ (by omega), hc1 _ _ (by simp; omega)]; go_simp
  have d4 : w2.cell? ⟨w.heap.size, 4, none⟩ = some (.int .i64 ce) := by rw [hc2 _ _ (by omega), hc1 _ _ (by simp; omega)]; go_simp
  have d5 : w2.cell? ⟨w.heap.size, 5, none⟩ = some (.int .i64 lg) := by rw [hc2 _ _ (by omega), hc1 _ _ (by simp; omega)]; go_simp
  have d6 : w2.cell? ⟨w.heap.size, 6, none⟩ = some (.int .i64 st) := by rw [hc2 _ _ (by omega), hc1 _ _ (by simp; omega)]; go_simp
  have g0 : w2.cell? ⟨w.heap.size + 1, 0, none⟩ = some (.int .i64 x) := by rw [hc2 _ _ (by omega), hc1 _ _ (by simp)]; go_simp
  have g1 : w2.cell? ⟨w.heap.size + 1, 1, none⟩ = some (.int .i64 y) := by rw [hc2 _ _ (by omega), hc1 _ _ (by simp)]; go_simp
  have g2 : w2.cell? ⟨w.heap.size + 1, 2, none⟩ = some (.int .i64 z) := by rw [hc2 _ _ (by omega), hc1 _ _ (by simp)]; go_simp
  have g3 : w2.cell? ⟨w.heap.size + 1, 3, none⟩ = some (.int .i64 x') := by rw [hc2 _ _ (by omega), hc1 _ _ (by simp)]; go_simp
  have g4 : w2.cell? ⟨w.heap.size + 1, 4, none⟩ = some (.int .i64 y') := by rw [hc2 _ _ (by omega), hc1 _ _ (by simp)]; go_simp
  have g5 : w2.cell? ⟨w.heap.size + 1, 5, none⟩ = some (.int .i64 z') := by rw [hc2 _ _ (by omega), hc1 _ _ (by simp)]; go_simp
  clear hc1 hf1 hc2 hf2
  go_wp2_with fail
  refine (block_any _ _ _ _ _ _ _ _ _ HT2.out.lim).mono ?_
  rintro e w3 ⟨rfl, hb3⟩
  rw [HQ.out, HD.out]
  have z3 : w.heap.size + 1 < w3.heap.size := by have := hb3.size; omega
  have HT3 := Lib.hid (HT2.out.later hb3)
  have HB3 := Lib.hid (HB2.out.trans (hb3.mono (by omega)))
  obtain ⟨hc3, hf3⟩ := bcell hb3
  have d0' := (hc3 _ _ (by omega)).trans d0
  have d1' := (hc3 _ _ (by omega)).trans d1
  have d2' := (hc3 _ _ (by omega)).trans d2
  have d3' := (hc3 _ _ (by omega)).trans d3
  have d4' := (hc3 _ _ (by omega)).trans d4
  have d5' := (hc3 _ _ (by omega)).trans d5
  have d6' := (hc3 _ _ (by omega)).trans d6
  have g0' := (hc3 _ _ (by omega)).trans g0
  have g1' := (hc3 _ _ (by omega)).trans g1
  have g2' := (hc3 _ _ (by omega)).trans g2
  have g3' := (hc3 _ _ (by omega)).trans g3
  have g4' := (hc3 _ _ (by omega)).trans g4
  have g5' := (hc3 _ _ (by omega)).trans g5
  clear hb3 hc3 hf3
  go_wp2_with fail
  have hgd := guardPlace2
  have HSLOT := Lib.hid (slot_lit b wd m r ce lg st k x y sl HSL.out)
  have hee := fun w => run_eql_placeB HE.out w
  have kd0 := cell_regrown d0'
  have kd1 := cell_regrown d1'
  have kd2 := cell_regrown d2'
  have kd3 := cell_regrown d3'
  have kd4 := cell_regrown d4'
  have kd5 := cell_regrown d5'
  have kd6 := cell_regrown d6'
  have kg0 := cell_regrown g0'
  have kg1 := cell_regrown g1'
  have kg2 := cell_regrown g2'
  have kg3 := cell_regrown g3'
  have kg4 := cell_regrown g4'
  have kg5 := cell_regrown g5'
  clear d0 d1 d2 d3 d4 d5 d6 g0 g1 g2 g3 g4 g5 d0' d1' d2' d3' d4' d5' d6' g0' g1' g2' g3' g4' g5'
  refine wp_region_quiet_below (by kernel_rfl) (by kernel_rfl) ?_
  repeat (go_big_quiet_step ((first
    | (go_at_call 23; exact Calls.regrown_of (HSLOT.out _ (HT3.out.later (below_regrown _ _ _))))
    | (go_at_call 27; exact Calls.regrown_of (awake_any _ (HT3.out.later (below_regrown _ _ _)))))))
  refine wpQuiet_nil ?_
  intro w4 hw'
  have hb4 := below_of_regrown hw'
  clear hw'
  go_wp2
  go_ret
  exact ⟨rfl, HB3.out.trans (hb4.mono (by omega))⟩

theorem apartLaw_any (b wd m r ce lg st k x y z x' y' z' : Int) (w : World) (ht : Tabs w) :
    Calls Tryd.prog 9 #[.agg #[.int .i64 b, .int .i64 wd, .int .i64 m, .int .i64 r, .int .i64 ce, .int .i64 lg, .int .i64 st], .int .i64 k, .agg #[.int .i64 x, .int .i64 y, .int .i64 z, .int .i64 x', .int .i64 y', .int .i64 z']] w fun e w' => e = .returned (.bool true) ∧ Below w.heap.size w w' := by
  by_cases ho : ofB (rightB b wd m r ce lg st) b wd k x y z = true
  · by_cases ho' : ofB (rightB b wd m r ce lg st) b wd k x' y' z' = true
    · obtain ⟨a, ha, hsl, hA, hq, _, z0, z1, a0, a1⟩ := of_parts ho
      have hs16 : sizI k ≤ 16 := by
        cases h : isB k with
        | true => exact (sizI_bd h).2
        | false => rw [Class.sizI_no h]; decide
      have hsl0 : 1 ≤ a - z := by
        rw [← hsl]
        obtain ⟨hs, _, _⟩ := ofB_true.1 ho
        rw [slotI_yes hs]
        obtain ⟨hr, hb, y0, y1⟩ := sltB_true.1 hs
        have hR : RightC b wd m r ce lg st := refRightB_true.1 ((rightB_ref ..).symm.trans hr)
        obtain ⟨p0, p1⟩ := first_bd hR hb
        obtain ⟨_, s0, s1, m0, m1, m2⟩ := slot_bd y0 y1
        omega
      obtain ⟨a', ha', _, _, _, _, _, _, _, _⟩ := of_parts ho'
      by_cases hxyz : x = x' ∧ y = y' ∧ z = z'
      · obtain ⟨rfl, rfl, rfl⟩ := hxyz
        have haa : a = a' := ha.symm.trans ha'
        exact apart_3 b wd m r ce lg st k x y z x y z a a' w ht ho ho' ha ha' hq hA _ hsl (by omega) (by omega) (by omega) z0 (by omega) true (by simp) (by simp [haa])
      · have haa : a ≠ a' := fun h => hxyz (of_inj ho ho' (by rw [ha, ha', h]))
        exact apart_3 b wd m r ce lg st k x y z x' y' z' a a' w ht ho ho' ha ha' hq hA _ hsl (by omega) (by omega) (by omega) z0 (by omega) false (by
          rw [← Bool.not_eq_true]; simpa using hxyz) (by simpa using haa)
    · have ho' : ofB (rightB b wd m r ce lg st) b wd k x' y' z' = false := by simpa using ho'
      exact apart_2 b wd m r ce lg st k x y z x' y' z' _ 0 w ht ho ho' rfl (ofI_no ho') rfl
  · have ho : ofB (rightB b wd m r ce lg st) b wd k x y z = false := by simpa using ho
    by_cases ho' : ofB (rightB b wd m r ce lg st) b wd k x' y' z' = true
    · exact apart_1 b wd m r ce lg st k x y z x' y' z' 0 _ w ht ho ho' (ofI_no ho) rfl rfl
    · have ho' : ofB (rightB b wd m r ce lg st) b wd k x' y' z' = false := by simpa using ho'
      exact apart_0 b wd m r ce lg st k x y z x' y' z' 0 0 w ht ho ho' (ofI_no ho) (ofI_no ho') rfl rfl
end Go.Proofs.YtgmakcoodgpjlaaDoor.Addr
