/-
  The law AddrOf answers true, for every config, class and place.
-/
import Derived.Test.YtgmakcoodgpjlaaDoorAddrC
import Derived.Test.YtgmakcoodgpjlaaDoorAddrG
import Derived.Test.YtgmakcoodgpjlaaDoorAddrL
namespace Go.Proofs.YtgmakcoodgpjlaaDoor.Addr
open Go.RowKit Go.Sort
open Class (SizTab isB sizI perI isB_true isB_false sizI_bd sizI_no perI_yes perI_noC perI_noW per_bd wordsB wordsB_true refper_any quiet_left below_drewN)

/-- The slots of a block. -/
def zsS (s z : Int) (N : Nat) : List Int := (List.range N).map fun n => s + ((n : Nat) : Int) * z
theorem cellsS_range (s z : Int) {N : Nat} (h : N ≤ 256) : cellsS s z (List.range N) = (zsS s z N).map fun x => Value.int .i64 x := by
  unfold cellsS zsS
  rw [List.map_map]
  refine List.map_congr_left fun n hn => ?_
  have : n < N := List.mem_range.1 hn
  simp only [Function.comp]
  rw [Class.clip_eq (by omega)]
theorem zsS_length (s z : Int) (N : Nat) : (zsS s z N).length = N := by simp [zsS]
theorem zsS_snoc (s z : Int) (N : Nat) : (zsS s z (N + 1)).map (fun x => Value.int .i64 x) = (zsS s z N).map (fun x => Value.int .i64 x) ++ [.int .i64 (s + ((N : Nat) : Int) * z)] := by
  simp [zsS, List.range_succ]
theorem owns_below {w w' : World} {base : Nat} {e : TypeId} {size n : Nat} {v : Value} {xs : List Value} (h : w.ownsRow base e size v n xs) (hb : Below w.heap.size w w') : w'.ownsRow base e size v n xs :=
  h.kept (row := none) ⟨hb.os, hb.tape, hb.output, hb.size, fun i hi _ => hb.block i hi⟩ (by
    cases hv : v.ownBlock with
    | none => exact .inl rfl
    | some _ => exact .inr (by simp))
/-- A row that is one's own reads as its list. -/
theorem listP_of_owns {w : World} {base : Nat} {v : Value} {zs : List Int} {n : Nat} (h : w.ownsRow base 3 1 v n (zs.map fun x => Value.int .i64 x)) (hn : zs.length = n) :
    ∃ a c, v = .slice a zs.length c ∧ ListP w.heap.size w a zs := by
  rcases h.2 with ⟨rfl, h0⟩ | ⟨g, c, cur, rfl, _, hg, _, _, _, _⟩
  · have : zs.length = 0 := by omega
    exact ⟨none, 0, by rw [this], fun j hj => by omega⟩
  · refine ⟨some ⟨g, 0, none⟩, c, by rw [hn], fun j hj => ⟨g, 0, rfl, (Array.getElem?_eq_some_iff.1 hg).1, ?_⟩⟩
    have := h.cells rfl j (.int .i64 (zs[j]?.getD 0)) (by simp [hj])
    by_cases h0 : j = 0
    · subst h0; simpa [Addr.add] using this
    · simpa [Addr.add, h0] using this


set_option maxRecDepth 100000 in
set_option maxHeartbeats 8000000 in
theorem oflaw_0 (b wd m r ce lg st k x y z a sl : Int) (okb : Bool) (w : World) (ht : Tabs w) (ho : ofB (rightB b wd m r ce lg st) b wd k x y z = okb) (ha : ofI (rightB b wd m r ce lg st) b wd k x y z = a) (hok : decide (0 < a) = okb)
    (hsl : ofI (rightB b wd m r ce lg st) b wd k x y 0 = sl) (hsl2 : slotI (rightB b wd m r ce lg st) b wd k x y = sl) (hrr : refRightB b wd m r ce lg st = false) (hns : sltB (rightB b wd m r ce lg st) b wd k x 0 = false) :
    Calls Tryd.prog 7 #[.agg #[.int .i64 b, .int .i64 wd, .int .i64 m, .int .i64 r, .int .i64 ce, .int .i64 lg, .int .i64 st], .int .i64 k, .agg #[.int .i64 x, .int .i64 y, .int .i64 z]] w fun e w' => e = .returned (.bool true) ∧ Below w.heap.size w w' := by
  have HT := Lib.hid ht
  have HO := Lib.hid ho
  have HA := Lib.hid ha
  have HS := Lib.hid hsl
  have HS2 := Lib.hid hsl2
  have HNS := Lib.hid hns
  clear hns
  clear ht ho ha hsl hsl2
  go_enter Tryd.func7, Tryd.ntmps7
  go_wp2_with fail
  refine (of_any _ _ _ _ _ _ _ _ _ _ _ _ (by repeat (first | exact HT.out | apply Tabs.alloc))).mono ?_
  rintro e w1 ⟨rfl, hb1⟩
  rw [HO.out, HA.out]
  obtain ⟨hc1, hf1⟩ := bcell hb1
  have z1 : w.heap.size + 1 < w1.heap.size := by have := hb1.size; simp at this; omega
  have z1' : w.heap.size < w1.heap.size := by omega
  have HT1 := Lib.hid (((HT.out.alloc _).alloc _).later hb1)
  have HB1 := Lib.hid ((((Below.refl _ w).alloc (Nat.le_refl _) _).alloc (by simp) _).trans (hb1.mono (by simp; omega)))
  have d0 : w1.cell? ⟨w.heap.size, 0, none⟩ = some (.int .i64 b) := by rw [hc1 _ _ (by simp; omega)]; go_simp
  have d1 : w1.cell? ⟨w.heap.size, 1, none⟩ = some (.int .i64 wd) := by rw [hc1 _ _ (by simp; omega)]; go_simp
  have d2 : w1.cell? ⟨w.heap.size, 2, none⟩ = some (.int .i64 m) := by rw [hc1 _ _ (by simp; omega)]; go_simp
  have d3 : w1.cell? ⟨w.heap.size, 3, none⟩ = some (.int .i64 r) := by rw [hc1 _ _ (by simp; omega)]; go_simp
  have d4 : w1.cell? ⟨w.heap.size, 4, none⟩ = some (.int .i64 ce) := by rw [hc1 _ _ (by simp; omega)]; go_simp
  have d5 : w1.cell? ⟨w.heap.size, 5, none⟩ = some (.int .i64 lg) := by rw [hc1 _ _ (by simp; omega)]; go_simp
  have d6 : w1.cell? ⟨w.heap.size, 6, none⟩ = some (.int .i64 st) := by rw [hc1 _ _ (by simp; omega)]; go_simp
  have g0 : w1.cell? ⟨w.heap.size + 1, 0, none⟩ = some (.int .i64 x) := by rw [hc1 _ _ (by simp)]; go_simp
  have g1 : w1.cell? ⟨w.heap.size + 1, 1, none⟩ = some (.int .i64 y) := by rw [hc1 _ _ (by simp)]; go_simp
  have g2 : w1.cell? ⟨w.heap.size + 1, 2, none⟩ = some (.int .i64 z) := by rw [hc1 _ _ (by simp)]; go_simp
  clear hb1 hc1 hf1
  go_wp2_with fail
  refine (refof_any _ _ _ _ _ _ _ _ _ _ _ _).mono ?_
  rintro e w2 ⟨rfl, hb2⟩
  rw [HA.out]
  obtain ⟨hc2, hf2⟩ := bcell hb2
  have z2 : w.heap.size + 1 < w2.heap.size := by have := hb2.size; omega
  have z2' : w.heap.size < w2.heap.size := by omega
  have HT2 := Lib.hid (HT1.out.later hb2)
  have HB2 := Lib.hid (HB1.out.trans (hb2.mono (by omega)))
  clear hb2
  go_wp2_with fail
  refine (refof_any _ _ _ _ _ _ _ _ _ _ _ _).mono ?_
  rintro e w3 ⟨rfl, hb3⟩
  rw [HS.out]
  obtain ⟨hc3, hf3⟩ := bcell hb3
  have z3 : w.heap.size + 1 < w3.heap.size := by have := hb3.size; omega
  have z3' : w.heap.size < w3.heap.size := by omega
  have HT3 := Lib.hid (HT2.out.later hb3)
  have HB3 := Lib.hid (HB2.out.trans (hb3.mono (by omega)))
  clear hb3
  go_wp2_with fail
  refine (slot_any _ _ _ _ _ _ _ _ _ _ _ HT3.out).mono ?_
  rintro e w4 ⟨rfl, hb4⟩
  rw [HS2.out]
  obtain ⟨hc4, hf4⟩ := bcell hb4
  have z4 : w.heap.size + 1 < w4.heap.size := by have := hb4.size; omega
  have z4' : w.heap.size < w4.heap.size := by omega
  have HT4 := Lib.hid (HT3.out.later hb4)
  have HB4 := Lib.hid (HB3.out.trans (hb4.mono (by omega)))
  clear hb4
  go_wp2_with fail
  refine (refright_any _ _ _ _ _ _ _ _).mono ?_
  rintro e w5 ⟨rfl, hb5⟩
  rw [hrr]
  obtain ⟨hc5, hf5⟩ := bcell hb5
  have z5 : w.heap.size + 1 < w5.heap.size := by have := hb5.size; omega
  have z5' : w.heap.size < w5.heap.size := by omega
  have HT5 := Lib.hid (HT4.out.later hb5)
  have HB5 := Lib.hid (HB4.out.trans (hb5.mono (by omega)))
  clear hb5
  have d0' := (hc5 _ _ (by omega)).trans ((hc4 _ _ (by omega)).trans ((hc3 _ _ (by omega)).trans ((hc2 _ _ (by omega)).trans d0)))
  have d1' := (hc5 _ _ (by omega)).trans ((hc4 _ _ (by omega)).trans ((hc3 _ _ (by omega)).trans ((hc2 _ _ (by omega)).trans d1)))
  have d2' := (hc5 _ _ (by omega)).trans ((hc4 _ _ (by omega)).trans ((hc3 _ _ (by omega)).trans ((hc2 _ _ (by omega)).trans d2)))
  have d3' := (hc5 _ _ (by omega)).trans ((hc4 _ _ (by omega)).trans ((hc3 _ _ (by omega)).trans ((hc2 _ _ (by omega)).trans d3)))
  have d4' := (hc5 _ _ (by omega)).trans ((hc4 _ _ (by omega)).trans ((hc3 _ _ (by omega)).trans ((hc2 _ _ (by omega)).trans d4)))
  have d5' := (hc5 _ _ (by omega)).trans ((hc4 _ _ (by omega)).trans ((hc3 _ _ (by omega)).trans ((hc2 _ _ (by omega)).trans d5)))
  have d6' := (hc5 _ _ (by omega)).trans ((hc4 _ _ (by omega)).trans ((hc3 _ _ (by omega)).trans ((hc2 _ _ (by omega)).trans d6)))
  have g0' := (hc5 _ _ (by omega)).trans ((hc4 _ _ (by omega)).trans ((hc3 _ _ (by omega)).trans ((hc2 _ _ (by omega)).trans g0)))
  have g1' := (hc5 _ _ (by omega)).trans ((hc4 _ _ (by omega)).trans ((hc3 _ _ (by omega)).trans ((hc2 _ _ (by omega)).trans g1)))
  have g2' := (hc5 _ _ (by omega)).trans ((hc4 _ _ (by omega)).trans ((hc3 _ _ (by omega)).trans ((hc2 _ _ (by omega)).trans g2)))
  clear hc5 hf5 hc4 hf4 hc3 hf3 hc2 hf2 d0 d1 d2 d3 d4 d5 d6 g0 g1 g2
  go_wp2_with fail
  refine (slots_no _ _ _ _ _ _ _ _ _ _ HT5.out HNS.out).mono ?_
  rintro e w6 ⟨rfl, hb6⟩
  have HT6 := Lib.hid (HT5.out.later hb6)
  have HB6 := Lib.hid (HB5.out.trans (hb6.mono (by omega)))
  clear hb6
  go_wp2_with fail
  refine (same_any none none 0 0 [] 0 w6 (fun j hj => absurd hj (by simp)) (fun j hj => absurd hj (by simp)) (by simp)).mono ?_
  rintro e w7 ⟨rfl, q, rfl⟩
  go_wp2_with (go_at_call 27; refine (awake_any _ (HT6.out.drewN _)).mono ?_; rintro e w8 ⟨rfl, hb8⟩)
  go_ret
  exact ⟨rfl, (below_drewN HB6.out q).trans (hb8.mono (by have := HB6.out.size; simpa using this))⟩

set_option maxRecDepth 100000 in
set_option maxHeartbeats 8000000 in
theorem oflaw_1 (b wd m r ce lg st k x y z a sl : Int) (okb : Bool) (w : World) (ht : Tabs w) (ho : ofB (rightB b wd m r ce lg st) b wd k x y z = okb) (ha : ofI (rightB b wd m r ce lg st) b wd k x y z = a) (hok : decide (0 < a) = okb)
    (hsl : ofI (rightB b wd m r ce lg st) b wd k x y 0 = sl) (hsl2 : slotI (rightB b wd m r ce lg st) b wd k x y = sl) (hrr : refRightB b wd m r ce lg st = true) (h0 : x < 0) (hns : sltB (rightB b wd m r ce lg st) b wd k x 0 = false) :
    Calls Tryd.prog 7 #[.agg #[.int .i64 b, .int .i64 wd, .int .i64 m, .int .i64 r, .int .i64 ce, .int .i64 lg, .int .i64 st], .int .i64 k, .agg #[.int .i64 x, .int .i64 y, .int .i64 z]] w fun e w' => e = .returned (.bool true) ∧ Below w.heap.size w w' := by
  have HT := Lib.hid ht
  have HO := Lib.hid ho
  have HA := Lib.hid ha
  have HS := Lib.hid hsl
  have HS2 := Lib.hid hsl2
  have HNS := Lib.hid hns
  clear hns
  clear ht ho ha hsl hsl2
  go_enter Tryd.func7, Tryd.ntmps7
  go_wp2_with fail
  refine (of_any _ _ _ _ _ _ _ _ _ _ _ _ (by repeat (first | exact HT.out | apply Tabs.alloc))).mono ?_
  rintro e w1 ⟨rfl, hb1⟩
  rw [HO.out, HA.out]
  obtain ⟨hc1, hf1⟩ := bcell hb1
  have z1 : w.heap.size + 1 < w1.heap.size := by have := hb1.size; simp at this; omega
  have z1' : w.heap.size < w1.heap.size := by omega
  have HT1 := Lib.hid (((HT.out.alloc _).alloc _).later hb1)
  have HB1 := Lib.hid ((((Below.refl _ w).alloc (Nat.le_refl _) _).alloc (by simp) _).trans (hb1.mono (by simp; omega)))
  have d0 : w1.cell? ⟨w.heap.size, 0, none⟩ = some (.int .i64 b) := by rw [hc1 _ _ (by simp; omega)]; go_simp
  have d1 : w1.cell? ⟨w.heap.size, 1, none⟩ = some (.int .i64 wd) := by rw [hc1 _ _ (by simp; omega)]; go_simp
  have d2 : w1.cell? ⟨w.heap.size, 2, none⟩ = some (.int .i64 m) := by rw [hc1 _ _ (by simp; omega)]; go_simp
  have d3 : w1.cell? ⟨w.heap.size, 3, none⟩ = some (.int .i64 r) := by rw [hc1 _ _ (by simp; omega)]; go_simp
  have d4 : w1.cell? ⟨w.heap.size, 4, none⟩ = some (.int .i64 ce) := by rw [hc1 _ _ (by simp; omega)]; go_simp
  have d5 : w1.cell? ⟨w.heap.size, 5, none⟩ = some (.int .i64 lg) := by rw [hc1 _ _ (by simp; omega)]; go_simp
  have d6 : w1.cell? ⟨w.heap.size, 6, none⟩ = some (.int .i64 st) := by rw [hc1 _ _ (by simp; omega)]; go_simp
  have g0 : w1.cell? ⟨w.heap.size + 1, 0, none⟩ = some (.int .i64 x) := by rw [hc1 _ _ (by simp)]; go_simp
  have g1 : w1.cell? ⟨w.heap.size + 1, 1, none⟩ = some (.int .i64 y) := by rw [hc1 _ _ (by simp)]; go_simp
  have g2 : w1.cell? ⟨w.heap.size + 1, 2, none⟩ = some (.int .i64 z) := by rw [hc1 _ _ (by simp)]; go_simp
  clear hb1 hc1 hf1
  go_wp2_with fail
  refine (refof_any _ _ _ _ _ _ _ _ _ _ _ _).mono ?_
  rintro e w2 ⟨rfl, hb2⟩
  rw [HA.out]
  obtain ⟨hc2, hf2⟩ := bcell hb2
  have z2 : w.heap.size + 1 < w2.heap.size := by have := hb2.size; omega
  have z2' : w.heap.size < w2.heap.size := by omega
  have HT2 := Lib.hid (HT1.out.later hb2)
  have HB2 := Lib.hid (HB1.out.trans (hb2.mono (by omega)))
  clear hb2
  go_wp2_with fail
  refine (refof_any _ _ _ _ _ _ _ _ _ _ _ _).mono ?_
  rintro e w3 ⟨rfl, hb3⟩
  rw [HS.out]
  obtain ⟨hc3, hf3⟩ := bcell hb3
  have z3 : w.heap.size + 1 < w3.heap.size := by have := hb3.size; omega
  have z3' : w.heap.size < w3.heap.size := by omega
  have HT3 := Lib.hid (HT2.out.later hb3)
  have HB3 := Lib.hid (HB2.out.trans (hb3.mono (by omega)))
  clear hb3
  go_wp2_with fail
  refine (slot_any _ _ _ _ _ _ _ _ _ _ _ HT3.out).mono ?_
  rintro e w4 ⟨rfl, hb4⟩
  rw [HS2.out]
  obtain ⟨hc4, hf4⟩ := bcell hb4
  have z4 : w.heap.size + 1 < w4.heap.size := by have := hb4.size; omega
  have z4' : w.heap.size < w4.heap.size := by omega
  have HT4 := Lib.hid (HT3.out.later hb4)
  have HB4 := Lib.hid (HB3.out.trans (hb4.mono (by omega)))
  clear hb4
  go_wp2_with fail
  refine (refright_any _ _ _ _ _ _ _ _).mono ?_
  rintro e w5 ⟨rfl, hb5⟩
  rw [hrr]
  obtain ⟨hc5, hf5⟩ := bcell hb5
  have z5 : w.heap.size + 1 < w5.heap.size := by have := hb5.size; omega
  have z5' : w.heap.size < w5.heap.size := by omega
  have HT5 := Lib.hid (HT4.out.later hb5)
  have HB5 := Lib.hid (HB4.out.trans (hb5.mono (by omega)))
  clear hb5
  have d0' := (hc5 _ _ (by omega)).trans ((hc4 _ _ (by omega)).trans ((hc3 _ _ (by omega)).trans ((hc2 _ _ (by omega)).trans d0)))
  have d1' := (hc5 _ _ (by omega)).trans ((hc4 _ _ (by omega)).trans ((hc3 _ _ (by omega)).trans ((hc2 _ _ (by omega)).trans d1)))
  have d2' := (hc5 _ _ (by omega)).trans ((hc4 _ _ (by omega)).trans ((hc3 _ _ (by omega)).trans ((hc2 _ _ (by omega)).trans d2)))
  have d3' := (hc5 _ _ (by omega)).trans ((hc4 _ _ (by omega)).trans ((hc3 _ _ (by omega)).trans ((hc2 _ _ (by omega)).trans d3)))
  have d4' := (hc5 _ _ (by omega)).trans ((hc4 _ _ (by omega)).trans ((hc3 _ _ (by omega)).trans ((hc2 _ _ (by omega)).trans d4)))
  have d5' := (hc5 _ _ (by omega)).trans ((hc4 _ _ (by omega)).trans ((hc3 _ _ (by omega)).trans ((hc2 _ _ (by omega)).trans d5)))
  have d6' := (hc5 _ _ (by omega)).trans ((hc4 _ _ (by omega)).trans ((hc3 _ _ (by omega)).trans ((hc2 _ _ (by omega)).trans d6)))
  have g0' := (hc5 _ _ (by omega)).trans ((hc4 _ _ (by omega)).trans ((hc3 _ _ (by omega)).trans ((hc2 _ _ (by omega)).trans g0)))
  have g1' := (hc5 _ _ (by omega)).trans ((hc4 _ _ (by omega)).trans ((hc3 _ _ (by omega)).trans ((hc2 _ _ (by omega)).trans g1)))
  have g2' := (hc5 _ _ (by omega)).trans ((hc4 _ _ (by omega)).trans ((hc3 _ _ (by omega)).trans ((hc2 _ _ (by omega)).trans g2)))
  clear hc5 hf5 hc4 hf4 hc3 hf3 hc2 hf2 d0 d1 d2 d3 d4 d5 d6 g0 g1 g2
  go_wp2_with fail
  refine (slots_no _ _ _ _ _ _ _ _ _ _ HT5.out HNS.out).mono ?_
  rintro e w6 ⟨rfl, hb6⟩
  have HT6 := Lib.hid (HT5.out.later hb6)
  have HB6 := Lib.hid (HB5.out.trans (hb6.mono (by omega)))
  clear hb6
  go_wp2_with fail
  refine (same_any none none 0 0 [] 0 w6 (fun j hj => absurd hj (by simp)) (fun j hj => absurd hj (by simp)) (by simp)).mono ?_
  rintro e w7 ⟨rfl, q, rfl⟩
  go_wp2_with (go_at_call 27; refine (awake_any _ (HT6.out.drewN _)).mono ?_; rintro e w8 ⟨rfl, hb8⟩)
  go_ret
  exact ⟨rfl, (below_drewN HB6.out q).trans (hb8.mono (by have := HB6.out.size; simpa using this))⟩

set_option maxRecDepth 100000 in
set_option maxHeartbeats 8000000 in
theorem oflaw_2 (b wd m r ce lg st k x y z a sl : Int) (okb : Bool) (w : World) (ht : Tabs w) (ho : ofB (rightB b wd m r ce lg st) b wd k x y z = okb) (ha : ofI (rightB b wd m r ce lg st) b wd k x y z = a) (hok : decide (0 < a) = okb)
    (hsl : ofI (rightB b wd m r ce lg st) b wd k x y 0 = sl) (hsl2 : slotI (rightB b wd m r ce lg st) b wd k x y = sl) (hrr : refRightB b wd m r ce lg st = true) (h0 : 0 ≤ x) (h1 : b ≤ x) (hns : sltB (rightB b wd m r ce lg st) b wd k x 0 = false) :
    Calls Tryd.prog 7 #[.agg #[.int .i64 b, .int .i64 wd, .int .i64 m, .int .i64 r, .int .i64 ce, .int .i64 lg, .int .i64 st], .int .i64 k, .agg #[.int .i64 x, .int .i64 y, .int .i64 z]] w fun e w' => e = .returned (.bool true) ∧ Below w.heap.size w w' := by
  have HT := Lib.hid ht
  have HO := Lib.hid ho
  have HA := Lib.hid ha
  have HS := Lib.hid hsl
  have HS2 := Lib.hid hsl2
  have HNS := Lib.hid hns
  clear hns
  clear ht ho ha hsl hsl2
  go_enter Tryd.func7, Tryd.ntmps7
  go_wp2_with fail
  refine (of_any _ _ _ _ _ _ _ _ _ _ _ _ (by repeat (first | exact HT.out | apply Tabs.alloc))).mono ?_
  rintro e w1 ⟨rfl, hb1⟩
  rw [HO.out, HA.out]
  obtain ⟨hc1, hf1⟩ := bcell hb1
  have z1 : w.heap.size + 1 < w1.heap.size := by have := hb1.size; simp at this; omega
  have z1' : w.heap.size < w1.heap.size := by omega
  have HT1 := Lib.hid (((HT.out.alloc _).alloc _).later hb1)
  have HB1 := Lib.hid ((((Below.refl _ w).alloc (Nat.le_refl _) _).alloc (by simp) _).trans (hb1.mono (by simp; omega)))
  have d0 : w1.cell? ⟨w.heap.size, 0, none⟩ = some (.int .i64 b) := by rw [hc1 _ _ (by simp; omega)]; go_simp
  have d1 : w1.cell? ⟨w.heap.size, 1, none⟩ = some (.int .i64 wd) := by rw [hc1 _ _ (by simp; omega)]; go_simp
  have d2 : w1.cell? ⟨w.heap.size, 2, none⟩ = some (.int .i64 m) := by rw [hc1 _ _ (by simp; omega)]; go_simp
  have d3 : w1.cell? ⟨w.heap.size, 3, none⟩ = some (.int .i64 r) := by rw [hc1 _ _ (by simp; omega)]; go_simp
  have d4 : w1.cell? ⟨w.heap.size, 4, none⟩ = some (.int .i64 ce) := by rw [hc1 _ _ (by simp; omega)]; go_simp
  have d5 : w1.cell? ⟨w.heap.size, 5, none⟩ = some (.int .i64 lg) := by rw [hc1 _ _ (by simp; omega)]; go_simp
  have d6 : w1.cell? ⟨w.heap.size, 6, none⟩ = some (.int .i64 st) := by rw [hc1 _ _ (by simp; omega)]; go_simp
  have g0 : w1.cell? ⟨w.heap.size + 1, 0, none⟩ = some (.int .i64 x) := by rw [hc1 _ _ (by simp)]; go_simp
  have g1 : w1.cell? ⟨w.heap.size + 1, 1, none⟩ = some (.int .i64 y) := by rw [hc1 _ _ (by simp)]; go_simp
  have g2 : w1.cell? ⟨w.heap.size + 1, 2, none⟩ = some (.int .i64 z) := by rw [hc1 _ _ (by simp)]; go_simp
  clear hb1 hc1 hf1
  go_wp2_with fail
  refine (refof_any _ _ _ _ _ _ _ _ _ _ _ _).mono ?_
  rintro e w2 ⟨rfl, hb2⟩
  rw [HA.out]
  obtain ⟨hc2, hf2⟩ := bcell hb2
  have z2 : w.heap.size + 1 < w2.heap.size := by have := hb2.size; omega
  have z2' : w.heap.size < w2.heap.size := by omega
  have HT2 := Lib.hid (HT1.out.later hb2)
  have HB2 := Lib.hid (HB1.out.trans (hb2.mono (by omega)))
  clear hb2
  go_wp2_with fail
  refine (refof_any _ _ _ _ _ _ _ _ _ _ _ _).mono ?_
  rintro e w3 ⟨rfl, hb3⟩
  rw [HS.out]
  obtain ⟨hc3, hf3⟩ := bcell hb3
  have z3 : w.heap.size + 1 < w3.heap.size := by have := hb3.size; omega
  have z3' : w.heap.size < w3.heap.size := by omega
  have HT3 := Lib.hid (HT2.out.later hb3)
  have HB3 := Lib.hid (HB2.out.trans (hb3.mono (by omega)))
  clear hb3
  go_wp2_with fail
  refine (slot_any _ _ _ _ _ _ _ _ _ _ _ HT3.out).mono ?_
  rintro e w4 ⟨rfl, hb4⟩
  rw [HS2.out]
  obtain ⟨hc4, hf4⟩ := bcell hb4
  have z4 : w.heap.size + 1 < w4.heap.size := by have := hb4.size; omega
  have z4' : w.heap.size < w4.heap.size := by omega
  have HT4 := Lib.hid (HT3.out.later hb4)
  have HB4 := Lib.hid (HB3.out.trans (hb4.mono (by omega)))
  clear hb4
  go_wp2_with fail
  refine (refright_any _ _ _ _ _ _ _ _).mono ?_
  rintro e w5 ⟨rfl, hb5⟩
  rw [hrr]
  obtain ⟨hc5, hf5⟩ := bcell hb5
  have z5 : w.heap.size + 1 < w5.heap.size := by have := hb5.size; omega
  have z5' : w.heap.size < w5.heap.size := by omega
  have HT5 := Lib.hid (HT4.out.later hb5)
  have HB5 := Lib.hid (HB4.out.trans (hb5.mono (by omega)))
  clear hb5
  have d0' := (hc5 _ _ (by omega)).trans ((hc4 _ _ (by omega)).trans ((hc3 _ _ (by omega)).trans ((hc2 _ _ (by omega)).trans d0)))
  have d1' := (hc5 _ _ (by omega)).trans ((hc4 _ _ (by omega)).trans ((hc3 _ _ (by omega)).trans ((hc2 _ _ (by omega)).trans d1)))
  have d2' := (hc5 _ _ (by omega)).trans ((hc4 _ _ (by omega)).trans ((hc3 _ _ (by omega)).trans ((hc2 _ _ (by omega)).trans d2)))
  have d3' := (hc5 _ _ (by omega)).trans ((hc4 _ _ (by omega)).trans ((hc3 _ _ (by omega)).trans ((hc2 _ _ (by omega)).trans d3)))
  have d4' := (hc5 _ _ (by omega)).trans ((hc4 _ _ (by omega)).trans ((hc3 _ _ (by omega)).trans ((hc2 _ _ (by omega)).trans d4)))
  have d5' := (hc5 _ _ (by omega)).trans ((hc4 _ _ (by omega)).trans ((hc3 _ _ (by omega)).trans ((hc2 _ _ (by omega)).trans d5)))
  have d6' := (hc5 _ _ (by omega)).trans ((hc4 _ _ (by omega)).trans ((hc3 _ _ (by omega)).trans ((hc2 _ _ (by omega)).trans d6)))
  have g0' := (hc5 _ _ (by omega)).trans ((hc4 _ _ (by omega)).trans ((hc3 _ _ (by omega)).trans ((hc2 _ _ (by omega)).trans g0)))
  have g1' := (hc5 _ _ (by omega)).trans ((hc4 _ _ (by omega)).trans ((hc3 _ _ (by omega)).trans ((hc2 _ _ (by omega)).trans g1)))
  have g2' := (hc5 _ _ (by omega)).trans ((hc4 _ _ (by omega)).trans ((hc3 _ _ (by omega)).trans ((hc2 _ _ (by omega)).trans g2)))
  clear hc5 hf5 hc4 hf4 hc3 hf3 hc2 hf2 d0 d1 d2 d3 d4 d5 d6 g0 g1 g2
  go_wp2_with fail
  refine (slots_no _ _ _ _ _ _ _ _ _ _ HT5.out HNS.out).mono ?_
  rintro e w6 ⟨rfl, hb6⟩
  have HT6 := Lib.hid (HT5.out.later hb6)
  have HB6 := Lib.hid (HB5.out.trans (hb6.mono (by omega)))
  clear hb6
  go_wp2_with fail
  refine (same_any none none 0 0 [] 0 w6 (fun j hj => absurd hj (by simp)) (fun j hj => absurd hj (by simp)) (by simp)).mono ?_
  rintro e w7 ⟨rfl, q, rfl⟩
  go_wp2_with (go_at_call 27; refine (awake_any _ (HT6.out.drewN _)).mono ?_; rintro e w8 ⟨rfl, hb8⟩)
  go_ret
  exact ⟨rfl, (below_drewN HB6.out q).trans (hb8.mono (by have := HB6.out.size; simpa using this))⟩

set_option maxRecDepth 100000 in
set_option maxHeartbeats 8000000 in
theorem oflaw_3 (b wd m r ce lg st k x y z a sl : Int) (okb : Bool) (w : World) (ht : Tabs w) (ho : ofB (rightB b wd m r ce lg st) b wd k x y z = okb) (ha : ofI (rightB b wd m r ce lg st) b wd k x y z = a) (hok : decide (0 < a) = okb)
    (hsl : ofI (rightB b wd m r ce lg st) b wd k x y 0 = sl) (hsl2 : slotI (rightB b wd m r ce lg st) b wd k x y = sl) (hrr : refRightB b wd m r ce lg st = true) (h0 : 0 ≤ x) (h1 : x < b) (hp0 : perI wd k = 0) (hns : sltB (rightB b wd m r ce lg st) b wd k x 0 = false) :
    Calls Tryd.prog 7 #[.agg #[.int .i64 b, .int .i64 wd, .int .i64 m, .int .i64 r, .int .i64 ce, .int .i64 lg, .int .i64 st], .int .i64 k, .agg #[.int .i64 x, .int .i64 y, .int .i64 z]] w fun e w' => e = .returned (.bool true) ∧ Below w.heap.size w w' := by
  have HT := Lib.hid ht
  have HO := Lib.hid ho
  have HA := Lib.hid ha
  have HS := Lib.hid hsl
  have HS2 := Lib.hid hsl2
  have HNS := Lib.hid hns
  have HP0 := Lib.hid hp0
  clear hns hp0
  clear ht ho ha hsl hsl2
  go_enter Tryd.func7, Tryd.ntmps7
  go_wp2_with fail
  refine (of_any _ _ _ _ _ _ _ _ _ _ _ _ (by repeat (first | exact HT.out | apply Tabs.alloc))).mono ?_
  rintro e w1 ⟨rfl, hb1⟩
  rw [HO.out, HA.out]
  obtain ⟨hc1, hf1⟩ := bcell hb1
  have z1 : w.heap.size + 1 < w1.heap.size := by have := hb1.size; simp at this; omega
  have z1' : w.heap.size < w1.heap.size := by omega
  have HT1 := Lib.hid (((HT.out.alloc _).alloc _).later hb1)
  have HB1 := Lib.hid ((((Below.refl _ w).alloc (Nat.le_refl _) _).alloc (by simp) _).trans (hb1.mono (by simp; omega)))
  have d0 : w1.cell? ⟨w.heap.size, 0, none⟩ = some (.int .i64 b) := by rw [hc1 _ _ (by simp; omega)]; go_simp
  have d1 : w1.cell? ⟨w.heap.size, 1, none⟩ = some (.int .i64 wd) := by rw [hc1 _ _ (by simp; omega)]; go_simp
  have d2 : w1.cell? ⟨w.heap.size, 2, none⟩ = some (.int .i64 m) := by rw [hc1 _ _ (by simp; omega)]; go_simp
  have d3 : w1.cell? ⟨w.heap.size, 3, none⟩ = some (.int .i64 r) := by rw [hc1 _ _ (by simp; omega)]; go_simp
  have d4 : w1.cell? ⟨w.heap.size, 4, none⟩ = some (.int .i64 ce) := by rw [hc1 _ _ (by simp; omega)]; go_simp
  have d5 : w1.cell? ⟨w.heap.size, 5, none⟩ = some (.int .i64 lg) := by rw [hc1 _ _ (by simp; omega)]; go_simp
  have d6 : w1.cell? ⟨w.heap.size, 6, none⟩ = some (.int .i64 st) := by rw [hc1 _ _ (by simp; omega)]; go_simp
  have g0 : w1.cell? ⟨w.heap.size + 1, 0, none⟩ = some (.int .i64 x) := by rw [hc1 _ _ (by simp)]; go_simp
  have g1 : w1.cell? ⟨w.heap.size + 1, 1, none⟩ = some (.int .i64 y) := by rw [hc1 _ _ (by simp)]; go_simp
  have g2 : w1.cell? ⟨w.heap.size + 1, 2, none⟩ = some (.int .i64 z) := by rw [hc1 _ _ (by simp)]; go_simp
  clear hb1 hc1 hf1
  go_wp2_with fail
  refine (refof_any _ _ _ _ _ _ _ _ _ _ _ _).mono ?_
  rintro e w2 ⟨rfl, hb2⟩
  rw [HA.out]
  obtain ⟨hc2, hf2⟩ := bcell hb2
  have z2 : w.heap.size + 1 < w2.heap.size := by have := hb2.size; omega
  have z2' : w.heap.size < w2.heap.size := by omega
  have HT2 := Lib.hid (HT1.out.later hb2)
  have HB2 := Lib.hid (HB1.out.trans (hb2.mono (by omega)))
  clear hb2
  go_wp2_with fail
  refine (refof_any _ _ _ _ _ _ _ _ _ _ _ _).mono ?_
  rintro e w3 ⟨rfl, hb3⟩
  rw [HS.out]
  obtain ⟨hc3, hf3⟩ := bcell hb3
  have z3 : w.heap.size + 1 < w3.heap.size := by have := hb3.size; omega
  have z3' : w.heap.size < w3.heap.size := by omega
  have HT3 := Lib.hid (HT2.out.later hb3)
  have HB3 := Lib.hid (HB2.out.trans (hb3.mono (by omega)))
  clear hb3
  go_wp2_with fail
  refine (slot_any _ _ _ _ _ _ _ _ _ _ _ HT3.out).mono ?_
  rintro e w4 ⟨rfl, hb4⟩
  rw [HS2.out]
  obtain ⟨hc4, hf4⟩ := bcell hb4
  have z4 : w.heap.size + 1 < w4.heap.size := by have := hb4.size; omega
  have z4' : w.heap.size < w4.heap.size := by omega
  have HT4 := Lib.hid (HT3.out.later hb4)
  have HB4 := Lib.hid (HB3.out.trans (hb4.mono (by omega)))
  clear hb4
  go_wp2_with fail
  refine (refright_any _ _ _ _ _ _ _ _).mono ?_
  rintro e w5 ⟨rfl, hb5⟩
  rw [hrr]
  obtain ⟨hc5, hf5⟩ := bcell hb5
  have z5 : w.heap.size + 1 < w5.heap.size := by have := hb5.size; omega
  have z5' : w.heap.size < w5.heap.size := by omega
  have HT5 := Lib.hid (HT4.out.later hb5)
  have HB5 := Lib.hid (HB4.out.trans (hb5.mono (by omega)))
  clear hb5
  have d0' := (hc5 _ _ (by omega)).trans ((hc4 _ _ (by omega)).trans ((hc3 _ _ (by omega)).trans ((hc2 _ _ (by omega)).trans d0)))
  have d1' := (hc5 _ _ (by omega)).trans ((hc4 _ _ (by omega)).trans ((hc3 _ _ (by omega)).trans ((hc2 _ _ (by omega)).trans d1)))
  have d2' := (hc5 _ _ (by omega)).trans ((hc4 _ _ (by omega)).trans ((hc3 _ _ (by omega)).trans ((hc2 _ _ (by omega)).trans d2)))
  have d3' := (hc5 _ _ (by omega)).trans ((hc4 _ _ (by omega)).trans ((hc3 _ _ (by omega)).trans ((hc2 _ _ (by omega)).trans d3)))
  have d4' := (hc5 _ _ (by omega)).trans ((hc4 _ _ (by omega)).trans ((hc3 _ _ (by omega)).trans ((hc2 _ _ (by omega)).trans d4)))
  have d5' := (hc5 _ _ (by omega)).trans ((hc4 _ _ (by omega)).trans ((hc3 _ _ (by omega)).trans ((hc2 _ _ (by omega)).trans d5)))
  have d6' := (hc5 _ _ (by omega)).trans ((hc4 _ _ (by omega)).trans ((hc3 _ _ (by omega)).trans ((hc2 _ _ (by omega)).trans d6)))
  have g0' := (hc5 _ _ (by omega)).trans ((hc4 _ _ (by omega)).trans ((hc3 _ _ (by omega)).trans ((hc2 _ _ (by omega)).trans g0)))
  have g1' := (hc5 _ _ (by omega)).trans ((hc4 _ _ (by omega)).trans ((hc3 _ _ (by omega)).trans ((hc2 _ _ (by omega)).trans g1)))
  have g2' := (hc5 _ _ (by omega)).trans ((hc4 _ _ (by omega)).trans ((hc3 _ _ (by omega)).trans ((hc2 _ _ (by omega)).trans g2)))
  clear hc5 hf5 hc4 hf4 hc3 hf3 hc2 hf2 d0 d1 d2 d3 d4 d5 d6 g0 g1 g2
  go_wp2_with fail
  go_loopw [11, 12] (fun v i wr => v = .slice none 0 0 ∧ i = .int .i64 0 ∧ wr = w5) (fun _ _ _ => 0)
  case atStart => exact ⟨rfl, rfl, rfl⟩
  case round =>
    obtain ⟨rfl, rfl, rfl⟩ := hrel
    go_wp2_with (go_at_call 19; refine (refper_any _ _ _).mono ?_; rintro e w' ⟨rfl, rfl⟩; rw [HP0.out])
    refine (slots_no _ _ _ _ _ _ _ _ _ _ HT5.out HNS.out).mono ?_
    rintro e w6 ⟨rfl, hb6⟩
    have HT6 := Lib.hid (HT5.out.later hb6)
    have HB6 := Lib.hid (HB5.out.trans (hb6.mono (by omega)))
    clear hb6
    go_wp2_with fail
    refine (same_any none none 0 0 [] 0 w6 (fun j hj => absurd hj (by simp)) (fun j hj => absurd hj (by simp)) (by simp)).mono ?_
    rintro e w7 ⟨rfl, q, rfl⟩
    go_wp2_with (go_at_call 27; refine (awake_any _ (HT6.out.drewN _)).mono ?_; rintro e w8 ⟨rfl, hb8⟩)
    go_ret
    exact ⟨rfl, (below_drewN HB6.out q).trans (hb8.mono (by have := HB6.out.size; simpa using this))⟩

set_option maxRecDepth 100000 in
set_option maxHeartbeats 8000000 in
theorem oflaw_4 (b wd m r ce lg st k x y z a sl : Int) (okb : Bool) (w : World) (ht : Tabs w) (ho : ofB (rightB b wd m r ce lg st) b wd k x y z = okb) (ha : ofI (rightB b wd m r ce lg st) b wd k x y z = a) (hok : decide (0 < a) = okb)
    (hsl : ofI (rightB b wd m r ce lg st) b wd k x y 0 = sl) (hsl2 : slotI (rightB b wd m r ce lg st) b wd k x y = sl) (hrr : refRightB b wd m r ce lg st = true) (h0 : 0 ≤ x) (h1 : x < b) (s : Int) (N : Nat) (hN : perI wd k = (N : Int)) (hp : 1 ≤ N) (hN1 : N ≤ 128) (hs : slotI (rightB b wd m r ce lg st) b wd k x 0 = s) (s0 : 1 ≤ s) (s1 : s ≤ 1048833) (he : ∀ c : Nat, c < N → ofI (rightB b wd m r ce lg st) b wd k x (c : Int) 0 = s + (c : Int) * sizI k) :
    Calls Tryd.prog 7 #[.agg #[.int .i64 b, .int .i64 wd, .int .i64 m, .int .i64 r, .int .i64 ce, .int .i64 lg, .int .i64 st], .int .i64 k, .agg #[.int .i64 x, .int .i64 y, .int .i64 z]] w fun e w' => e = .returned (.bool true) ∧ Below w.heap.size w w' := by
  have HT := Lib.hid ht
  have HO := Lib.hid ho
  have HA := Lib.hid ha
  have HS := Lib.hid hsl
  have HS2 := Lib.hid hsl2
  obtain ⟨i0, hinf, hz0, hz1, hz2⟩ := info_parts infoInt
  have HP := Lib.hid hN
  have HE := Lib.hid he
  have HS0 := Lib.hid hs
  clear hN he hs
  clear ht ho ha hsl hsl2
  go_enter Tryd.func7, Tryd.ntmps7
  go_wp2_with fail
  refine (of_any _ _ _ _ _ _ _ _ _ _ _ _ (by repeat (first | exact HT.out | apply Tabs.alloc))).mono ?_
  rintro e w1 ⟨rfl, hb1⟩
  rw [HO.out, HA.out]
  obtain ⟨hc1, hf1⟩ := bcell hb1
  have z1 : w.heap.size + 1 < w1.heap.size := by have := hb1.size; simp at this; omega
  have z1' : w.heap.size < w1.heap.size := by omega
  have HT1 := Lib.hid (((HT.out.alloc _).alloc _).later hb1)
  have HB1 := Lib.hid ((((Below.refl _ w).alloc (Nat.le_refl _) _).alloc (by simp) _).trans (hb1.mono (by simp; omega)))
  have d0 : w1.cell? ⟨w.heap.size, 0, none⟩ = some (.int .i64 b) := by rw [hc1 _ _ (by simp; omega)]; go_simp
  have d1 : w1.cell? ⟨w.heap.size, 1, none⟩ = some (.int .i64 wd) := by rw [hc1 _ _ (by simp; omega)]; go_simp
  have d2 : w1.cell? ⟨w.heap.size, 2, none⟩ = some (.int .i64 m) := by rw [hc1 _ _ (by simp; omega)]; go_simp
  have d3 : w1.cell? ⟨w.heap.size, 3, none⟩ = some (.int .i64 r) := by rw [hc1 _ _ (by simp; omega)]; go_simp
  have d4 : w1.cell? ⟨w.heap.size, 4, none⟩ = some (.int .i64 ce) := by rw [hc1 _ _ (by simp; omega)]; go_simp
  have d5 : w1.cell? ⟨w.heap.size, 5, none⟩ = some (.int .i64 lg) := by rw [hc1 _ _ (by simp; omega)]; go_simp
  have d6 : w1.cell? ⟨w.heap.size, 6, none⟩ = some (.int .i64 st) := by rw [hc1 _ _ (by simp; omega)]; go_simp
  have g0 : w1.cell? ⟨w.heap.size + 1, 0, none⟩ = some (.int .i64 x) := by rw [hc1 _ _ (by simp)]; go_simp
  have g1 : w1.cell? ⟨w.heap.size + 1, 1, none⟩ = some (.int .i64 y) := by rw [hc1 _ _ (by simp)]; go_simp
  have g2 : w1.cell? ⟨w.heap.size + 1, 2, none⟩ = some (.int .i64 z) := by rw [hc1 _ _ (by simp)]; go_simp
  clear hb1 hc1 hf1
  go_wp2_with fail
  refine (refof_any _ _ _ _ _ _ _ _ _ _ _ _).mono ?_
  rintro e w2 ⟨rfl, hb2⟩
  rw [HA.out]
  obtain ⟨hc2, hf2⟩ := bcell hb2
  have z2 : w.heap.size + 1 < w2.heap.size := by have := hb2.size; omega
  have z2' : w.heap.size < w2.heap.size := by omega
  have HT2 := Lib.hid (HT1.out.later hb2)
  have HB2 := Lib.hid (HB1.out.trans (hb2.mono (by omega)))
  clear hb2
  go_wp2_with fail
  refine (refof_any _ _ _ _ _ _ _ _ _ _ _ _).mono ?_
  rintro e w3 ⟨rfl, hb3⟩
  rw [HS.out]
  obtain ⟨hc3, hf3⟩ := bcell hb3
  have z3 : w.heap.size + 1 < w3.heap.size := by have := hb3.size; omega
  have z3' : w.heap.size < w3.heap.size := by omega
  have HT3 := Lib.hid (HT2.out.later hb3)
  have HB3 := Lib.hid (HB2.out.trans (hb3.mono (by omega)))
  clear hb3
  go_wp2_with fail
  refine (slot_any _ _ _ _ _ _ _ _ _ _ _ HT3.out).mono ?_
  rintro e w4 ⟨rfl, hb4⟩
  rw [HS2.out]
  obtain ⟨hc4, hf4⟩ := bcell hb4
  have z4 : w.heap.size + 1 < w4.heap.size := by have := hb4.size; omega
  have z4' : w.heap.size < w4.heap.size := by omega
  have HT4 := Lib.hid (HT3.out.later hb4)
  have HB4 := Lib.hid (HB3.out.trans (hb4.mono (by omega)))
  clear hb4
  go_wp2_with fail
  refine (refright_any _ _ _ _ _ _ _ _).mono ?_
  rintro e w5 ⟨rfl, hb5⟩
  rw [hrr]
  obtain ⟨hc5, hf5⟩ := bcell hb5
  have z5 : w.heap.size + 1 < w5.heap.size := by have := hb5.size; omega
  have z5' : w.heap.size < w5.heap.size := by omega
  have HT5 := Lib.hid (HT4.out.later hb5)
  have HB5 := Lib.hid (HB4.out.trans (hb5.mono (by omega)))
  clear hb5
  have d0' := (hc5 _ _ (by omega)).trans ((hc4 _ _ (by omega)).trans ((hc3 _ _ (by omega)).trans ((hc2 _ _ (by omega)).trans d0)))
  have d1' := (hc5 _ _ (by omega)).trans ((hc4 _ _ (by omega)).trans ((hc3 _ _ (by omega)).trans ((hc2 _ _ (by omega)).trans d1)))
  have d2' := (hc5 _ _ (by omega)).trans ((hc4 _ _ (by omega)).trans ((hc3 _ _ (by omega)).trans ((hc2 _ _ (by omega)).trans d2)))
  have d3' := (hc5 _ _ (by omega)).trans ((hc4 _ _ (by omega)).trans ((hc3 _ _ (by omega)).trans ((hc2 _ _ (by omega)).trans d3)))
  have d4' := (hc5 _ _ (by omega)).trans ((hc4 _ _ (by omega)).trans ((hc3 _ _ (by omega)).trans ((hc2 _ _ (by omega)).trans d4)))
  have d5' := (hc5 _ _ (by omega)).trans ((hc4 _ _ (by omega)).trans ((hc3 _ _ (by omega)).trans ((hc2 _ _ (by omega)).trans d5)))
  have d6' := (hc5 _ _ (by omega)).trans ((hc4 _ _ (by omega)).trans ((hc3 _ _ (by omega)).trans ((hc2 _ _ (by omega)).trans d6)))
  have g0' := (hc5 _ _ (by omega)).trans ((hc4 _ _ (by omega)).trans ((hc3 _ _ (by omega)).trans ((hc2 _ _ (by omega)).trans g0)))
  have g1' := (hc5 _ _ (by omega)).trans ((hc4 _ _ (by omega)).trans ((hc3 _ _ (by omega)).trans ((hc2 _ _ (by omega)).trans g1)))
  have g2' := (hc5 _ _ (by omega)).trans ((hc4 _ _ (by omega)).trans ((hc3 _ _ (by omega)).trans ((hc2 _ _ (by omega)).trans g2)))
  clear hc5 hf5 hc4 hf4 hc3 hf3 hc2 hf2 d0 d1 d2 d3 d4 d5 d6 g0 g1 g2
  go_wp2_with fail
  have hS5 := Nat.le_refl w5.heap.size
  go_loopw [11, 12] (fun v i wr => ∃ c : Nat, c ≤ N ∧ i = .int .i64 c ∧ ∃ a0 c0, v = .slice a0 c c0 ∧ wr.ownsRow w5.heap.size 3 1 (.slice a0 c c0) c ((zsS s (sizI k) c).map fun x => Value.int .i64 x) ∧ Below w5.heap.size w5 wr) (fun _ i _ => N - (intOf i).toNat)
  case atStart => exact ⟨0, Nat.zero_le _, rfl, none, 0, rfl, World.ownsRow_nil _ _ _ _, Below.refl _ _⟩
  case round =>
    obtain ⟨c, hc, rfl, a0, c0, rfl, hown, hb⟩ := hrel
    obtain ⟨hcr, hfr⟩ := bcell hb
    have HB := Lib.hid hb
    have HOW := Lib.hid hown
    clear hb hown
    by_cases hlt : c < N
    · have hltI : (c : Int) < (N : Int) := by omega
      go_wp2_with (go_at_call 19; refine (refper_any _ _ _).mono ?_; rintro e w' ⟨rfl, rfl⟩; rw [HP.out])
      refine (refof_any _ _ _ _ _ _ _ _ _ _ _ _).mono ?_
      rintro e wq ⟨rfl, hbq⟩
      rw [HE.out c hlt]
      have HOQ := Lib.hid (owns_below HOW.out hbq)
      have hbaseq : w5.heap.size ≤ (wq.alloc (.cells #[.int .i64 (s + (c : Int) * sizI k)] 3)).heap.size := by have := HB.out.size; have := hbq.size; simp; omega
      have HBQ := Lib.hid (HB.out.trans (hbq.mono HB.out.size))
      have HBA := Lib.hid hbaseq
      clear hbq hbaseq
      go_wp2_with (at_builtin; refine wpList_append_own _ rfl (.tmp 80) (.tmp 88) 43 rfl w5.heap.size 3 i0 (.int .i64 0) 1 8 Tryd.underlying43 hinf hz0 hz1 hz2 rfl (by decide) _ _ _ rfl (HOQ.out.alloc _) ⟨wq.heap.size, 0, none⟩ 1 1 [.int .i64 (s + (c : Int) * sizI k)] rfl rfl ?c1 (by simp [Value.oneCell']) (by unfold maxLen; omega) (by omega) HBA.out ?c2)
      case c1 =>
        intro j u hj
        cases j with
        | zero =>
          obtain rfl := Option.some.inj hj
          exact (Boxed.new wq _ _).cell
        | succ j => simp at hj
      intro v' w3 hown' hgrow hnil
      obtain ⟨g', cap', rfl⟩ := ownsRow_succ hown'
      have hb3 : Below w5.heap.size w5 w3 := ((HBQ.out.trans ((Below.refl w5.heap.size wq).alloc HBQ.out.size _)).grown hgrow HBA.out (fun k e => (HOQ.out.lt k e).1))
      rw [← zsS_snoc] at hown'
      have HO3 := Lib.hid hown'
      have HB3 := Lib.hid hb3
      clear hown' hgrow hnil hb3
      go_wp2
      go_roundw
      case rel => exact ⟨c + 1, by omega, by go_num, _, _, rfl, HO3.out, HB3.out⟩
      case measure => simp [intOf]; omega
    · obtain rfl : c = N := by omega
      go_wp2_with (go_at_call 19; refine (refper_any _ _ _).mono ?_; rintro e w' ⟨rfl, rfl⟩; rw [HP.out])
      have HT6 := Lib.hid (HT5.out.later HB.out)
      refine (slots_yes _ _ _ _ _ _ _ _ _ s c _ HT6.out HS0.out s0 s1 HP.out hp).mono ?_
      rintro e w6 ⟨v6, rfl, hown6, hb6⟩
      rw [cellsS_range _ _ (by omega)] at hown6
      obtain ⟨a6, c6, rfl, hl6⟩ := listP_of_owns hown6 (zsS_length _ _ _)
      obtain ⟨a7, c7, e7, hl7⟩ := listP_of_owns (owns_below HOW.out hb6) (zsS_length _ _ _)
      rw [zsS_length] at e7 ⊢
      obtain ⟨rfl, rfl⟩ : a0 = a7 ∧ c0 = c7 := by simpa using e7
      have hsame := same_any a6 a0 c6 c0 (zsS s (sizI k) c) w6.heap.size w6 hl6 hl7 (by rw [zsS_length]; omega)
      rw [zsS_length] at hsame
      have HSAME := Lib.hid hsame
      have HT7 := Lib.hid (HT6.out.later hb6)
      have HB6 := Lib.hid ((HB5.out.trans (HB.out.mono (by omega))).trans (hb6.mono (by have := HB.out.size; omega)))
      clear hsame hown6 hl6 hl7 e7 hb6 hcr hfr
      go_wp2_with fail
      refine HSAME.out.mono ?_
      rintro e w7 ⟨rfl, q, rfl⟩
      go_wp2_with (go_at_call 27; refine (awake_any _ (HT7.out.drewN _)).mono ?_; rintro e w8 ⟨rfl, hb8⟩)
      go_ret
      exact ⟨rfl, (below_drewN HB6.out q).trans (hb8.mono (by have := HB6.out.size; simpa using this))⟩

theorem ofI_zero (R : Bool) (b wd k x y : Int) : ofI R b wd k x y 0 = slotI R b wd k x y := by
  by_cases h : sltB R b wd k x y = true
  · obtain ⟨_, _, h0, h1⟩ := sltB_true.1 h
    obtain ⟨_, s0, _, _, _, _⟩ := slot_bd h0 h1
    rw [ofI_yes (ofB_true.2 ⟨h, by omega, by omega⟩), slotI_yes h]; omega
  · have h : sltB R b wd k x y = false := by simpa using h
    rw [slotI_no h]
    exact ofI_no (by rw [← Bool.not_eq_true, ofB_true]; simp [h])
theorem ok_pos (b wd m r ce lg st k x y z : Int) : decide (0 < ofI (rightB b wd m r ce lg st) b wd k x y z) = ofB (rightB b wd m r ce lg st) b wd k x y z := by
  cases h : ofB (rightB b wd m r ce lg st) b wd k x y z with
  | false => rw [ofI_no h]; rfl
  | true =>
    obtain ⟨hs, z0, z1⟩ := ofB_true.1 h
    obtain ⟨hr, hb, y0, y1⟩ := sltB_true.1 hs
    have hR : RightC b wd m r ce lg st := refRightB_true.1 ((rightB_ref ..).symm.trans hr)
    obtain ⟨p0, p1⟩ := first_bd hR hb
    obtain ⟨_, s0, s1, m0, m1, m2⟩ := slot_bd y0 y1
    rw [ofI_yes h]
    simp
    omega

theorem ofLaw_any (b wd m r ce lg st k x y z : Int) (w : World) (ht : Tabs w) :
    Calls Tryd.prog 7 #[.agg #[.int .i64 b, .int .i64 wd, .int .i64 m, .int .i64 r, .int .i64 ce, .int .i64 lg, .int .i64 st], .int .i64 k, .agg #[.int .i64 x, .int .i64 y, .int .i64 z]] w fun e w' => e = .returned (.bool true) ∧ Below w.heap.size w w' := by
  by_cases hr : rightB b wd m r ce lg st = true
  · have hrr := (rightB_ref b wd m r ce lg st).symm.trans hr
    have hR : RightC b wd m r ce lg st := refRightB_true.1 hrr
    by_cases h0 : 0 ≤ x
    · by_cases h1 : x < b
      · have hb := blkB_true.2 ⟨h0, h1⟩
        obtain ⟨e0, e1⟩ := per_bd wd k
        obtain ⟨N, hN⟩ : ∃ N : Nat, perI wd k = (N : Int) := ⟨(perI wd k).toNat, by omega⟩
        by_cases hp : 1 ≤ N
        · have hs0 : sltB (rightB b wd m r ce lg st) b wd k x 0 = true := sltB_true.2 ⟨hr, hb, by omega, by omega⟩
          obtain ⟨q0, q1⟩ := slotI_pos (k := k) (slot := 0) hR (hr ▸ hs0)
          have hsl : slotI (rightB b wd m r ce lg st) b wd k x 0 = x * wd + 1 + 0 * sizI k := slotI_yes hs0
          refine oflaw_4 b wd m r ce lg st k x y z _ _ _ w ht rfl rfl (ok_pos ..) (ofI_zero ..) rfl hrr h0 h1 _ N hN hp (by omega) hsl q0 q1 fun c hc => ?_
          have hsc : sltB (rightB b wd m r ce lg st) b wd k x (c : Int) = true := sltB_true.2 ⟨hr, hb, by omega, by omega⟩
          rw [ofI_zero, slotI_yes hsc]
          omega
        · have hp0 : perI wd k = 0 := by omega
          exact oflaw_3 b wd m r ce lg st k x y z _ _ _ w ht rfl rfl (ok_pos ..) (ofI_zero ..) rfl hrr h0 h1 hp0 (by rw [← Bool.not_eq_true, sltB_true]; omega)
      · exact oflaw_2 b wd m r ce lg st k x y z _ _ _ w ht rfl rfl (ok_pos ..) (ofI_zero ..) rfl hrr h0 (by omega) (by rw [← Bool.not_eq_true, sltB_true, blkB_true]; omega)
    · exact oflaw_1 b wd m r ce lg st k x y z _ _ _ w ht rfl rfl (ok_pos ..) (ofI_zero ..) rfl hrr (by omega) (by rw [← Bool.not_eq_true, sltB_true, blkB_true]; omega)
  · have hr : rightB b wd m r ce lg st = false := by simpa using hr
    exact oflaw_0 b wd m r ce lg st k x y z _ _ _ w ht rfl rfl (ok_pos ..) (ofI_zero ..) rfl ((rightB_ref b wd m r ce lg st).symm.trans hr) (by rw [← Bool.not_eq_true, sltB_true]; simp [hr])
end Go.Proofs.YtgmakcoodgpjlaaDoor.Addr
