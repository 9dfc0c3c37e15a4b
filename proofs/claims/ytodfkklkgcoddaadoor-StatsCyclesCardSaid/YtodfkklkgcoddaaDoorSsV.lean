/-
  StatsCycles answers true.
-/
import Derived.Test.YtodfkklkgcoddaaDoorSsU
import Derived.Test.YtodfkklkgcoddaaDoorSsW
namespace Go.Proofs.YtodfkklkgcoddaaDoor.Ss
open Go.RowKit Go.Shelf
open Go.Proofs.YtodfkklkgcoddaaDoor.Row
attribute [local go_sem] Oper.semAt_some wide_fn

theorem regrownR_of {l : Nat} {n : Nat} {P : Program} {f : FuncId} {args : Array Value} {w : World} {d : Nat} {os : Array Obj} {v : Value}
    (h : Calls P f args (Sort.grow (redrawn w d) os) fun e w' => e = .returned v ∧ Below (Sort.grow (redrawn w d) os).heap.size (Sort.grow (redrawn w d) os) w') :
    CallsIn (Fence.wide.inRound l) n P f args (Sort.grow (redrawn w d) os) fun e w'' => e = .returned v ∧ ∃ p : Regrown, w'' = Sort.grow (redrawn w p.d) p.os :=
  CallsIn.inRound l (callsIn_wide.2 (Calls.regrown_of h))
set_option maxRecDepth 100000 in
set_option maxHeartbeats 8000000 in
theorem cycles_walk (p : Option Addr) (cap : Nat) (l : List Ev) (st : Nat) (hst : st < 256) (W : World) (ht : LibTab W) (h : EvAt W p l) (hl : l.length ≤ 100) (hcap : l.length ≤ cap) (hcm : cap ≤ maxLen) (hi : ∀ e ∈ l, EvI e) :
    Calls Tryd.prog 3 #[.slice p l.length cap, .int .u8 st] W fun x w' => x = .returned (.bool true) ∧ Below W.heap.size W w' := by
  have i0 : ¬ (100 : Int) < (l.length : Int) := by omega
  have hqf := eql_func_nil
  have HT := Lib.hid ht
  have HO := Lib.hid h
  have HI := Lib.hid (cycs_in l (by omega) hi)
  have HLE := Lib.hid (Nat.le_trans (cycs_le l) hl)
  obtain ⟨w1, hw1⟩ : ∃ w1, (W.alloc (.cells #[.int .u8 st] 5)).alloc (.cells #[.bool false] 4) = w1 := ⟨_, rfl⟩
  have hb1 : Below W.heap.size W w1 := by rw [← hw1]; exact ((Below.refl _ _).alloc (Nat.le_refl _) _).alloc (by simp) _
  have x0 : Boxed w1 W.heap.size 5 (.int .u8 st) := by rw [← hw1]; exact (Boxed.new _ _ _).alloc _
  have x1 : Boxed w1 (W.heap.size + 1) 4 (.bool false) := by rw [← hw1]; exact boxed_new (by simp)
  have HB1 := Lib.hid hb1
  have HX0 := Lib.hid x0
  have HX1 := Lib.hid x1
  have HC := Lib.hid (cycles_any p cap l w1 (h.later hb1) (by omega) hcap hcm)
  have HCAP := Lib.hid hcap
  have HCM := Lib.hid hcm
  clear h ht hi hb1 x0 x1 hcap hcm
  refine (callsIn_wide (n := 5)).1 ?_
  refine callsIn_of_wp_marks Tryd.func3 rfl trivial ?_ rfl
  simp only [Tryd.ntmps3, List.size_toArray, List.length_cons, List.length_nil, Nat.reduceAdd, Nat.reduceSub, Array.replicate_succ, Array.replicate_zero, List.push_toArray, List.append_toArray, List.nil_append, List.cons_append]
  gi_wp2_with (gi_at_call 8; fail)
  refine (callsIn_wide.2 HC.out).mono ?_
  rintro e w2 ⟨p1, c1, rfl, ho1, hb2⟩
  have HR1 := Lib.hid (CyR.of_owns ho1)
  have HX02 := Lib.hid (Boxed.below HX0.out hb2 HX0.out.lt)
  have HX12 := Lib.hid (Boxed.below HX1.out hb2 HX1.out.lt)
  have HB2 := Lib.hid (HB1.out.trans (hb2.mono HB1.out.size))
  clear ho1 hb2 HX0 HX1 HB1 HC hw1
  have HLC := Lib.hid (lawcycles_any p cap l w2 (HO.out.later HB2.out) (by omega))
  gi_wp2_with (gi_at_call 9; fail)
  refine (callsIn_wide.2 HLC.out).mono ?_
  rintro e w3 ⟨p2, c2, rfl, ho2, hb3⟩
  have HR13 := Lib.hid (HR1.out.later hb3)
  have HR2 := Lib.hid (CyR.of_owns ho2)
  have HX03 := Lib.hid (Boxed.below HX02.out hb3 HX02.out.lt)
  have HX13 := Lib.hid (Boxed.below HX12.out hb3 HX12.out.lt)
  have HB3 := Lib.hid (HB2.out.trans (hb3.mono HB2.out.size))
  clear ho2 hb3 HR1 HX02 HX12 HB2 HLC
  have HS3 : Hid (W.heap.size + 1 < w3.heap.size) := Lib.hid HX13.out.lt
  obtain ⟨w4, hw4⟩ : ∃ w4, w3.alloc (.cells #[.slice p2 (cycs l).length c2] 24) = w4 := ⟨_, rfl⟩
  have hb4 : Below w3.heap.size w3 w4 := by rw [← hw4]; exact (Below.refl _ _).alloc (Nat.le_refl _) _
  have x6 : Boxed w4 w3.heap.size 24 (.slice p2 (cycs l).length c2) := by rw [← hw4]; exact Boxed.new _ _ _
  have HX6 := Lib.hid x6
  have k6 := x6.cell
  have HX04 := Lib.hid (Boxed.below HX03.out hb4 HX03.out.lt)
  have HX14 := Lib.hid (Boxed.below HX13.out hb4 HX13.out.lt)
  have HB4 := Lib.hid (HB3.out.trans (hb4.mono HB3.out.size))
  have HR24 := Lib.hid (HR2.out.later hb4)
  have HSM := Lib.hid (same_any p1 p2 c1 c2 (cycs l) w4 (HR13.out.later hb4) HR24.out (by have := HLE.out; omega))
  clear x6 hb4 HR13 HR2 HX03 HX13
  gi_wp2_with (gi_at_call 10; fail)
  refine (callsIn_wide.2 HSM.out).mono ?_
  rintro e w5 ⟨rfl, hb5⟩
  have HX65 := Lib.hid (Boxed.below HX6.out hb5 HX6.out.lt)
  have HX05 := Lib.hid (Boxed.below HX04.out hb5 HX04.out.lt)
  have HX15 := Lib.hid (Boxed.below HX14.out hb5 HX14.out.lt)
  have HB5 := Lib.hid (HB4.out.trans (hb5.mono HB4.out.size))
  have HR25 := Lib.hid (HR24.out.later hb5)
  have HEA := Lib.hid (each_any p cap l w5 (HO.out.later HB5.out) (by omega) HCAP.out HCM.out)
  clear hb5 HX6 HX04 HX14 HB4 HR24 HSM k6 hw4
  gi_wp2_with (gi_at_call 11; fail)
  refine (callsIn_wide.2 HEA.out).mono ?_
  rintro e w6 ⟨B, p3, c3, rfl, hB, hr3, hb6⟩
  have HX66 := Lib.hid (Boxed.below HX65.out hb6 HX65.out.lt)
  have HX06 := Lib.hid (Boxed.below HX05.out hb6 HX05.out.lt)
  have HX16 := Lib.hid (Boxed.below HX15.out hb6 HX15.out.lt)
  have HB6 := Lib.hid (HB5.out.trans (hb6.mono HB5.out.size))
  have HR26 := Lib.hid (HR25.out.later hb6)
  have HBC := Lib.hid hB
  have HR36 := Lib.hid hr3
  clear hb6 HX65 HX05 HX15 HB5 HR25 HEA hB hr3
  gi_wp2
  generalize hX : World.alloc _ _ = X
  have bX : Below w6.heap.size w6 X := by rw [← hX]; exact (Below.refl _ _).alloc (Nat.le_refl _) _
  have xn : Boxed X w6.heap.size 3 (.int .i64 ((0 : Nat) : Int)) := by rw [← hX]; exact Boxed.new _ _ _
  have HBX := Lib.hid bX
  have HXN := Lib.hid xn
  have HSX : Hid (X.heap.size = w6.heap.size + 1) := Lib.hid (by rw [← hX]; simp)
  clear bX xn hX
  obtain ⟨L, hL⟩ : ∃ L, cycs l = L := ⟨_, rfl⟩
  rw [hL] at HX66 HR26 HBC HR36 HI HLE
  rw [hL]
  clear hL
  have HSQ := Lib.hid (all_told 4 B p3 c3 L (by have := HLE.out; omega) w6)
  refine wpIn_rangeFunc_toldA rfl (by decide) (gf := 24) (lb := #[.pointer (some ⟨B, 0, none⟩)]) rfl trivial (enters_of Tryd.func24 (by kernel_rfl) rfl)
    HSQ.out HBX.out (fun i => rfl)
    (fun O i Y => (∀ x, ¬ O x) ∧ (st = 0 ∨ i < st) ∧ Below w6.heap.size w6 Y ∧ Boxed Y w6.heap.size 3 (.int .i64 (i : Nat)))
    (fun cc O i Y => cc = .exit 0 ∧ (∀ x, ¬ O x) ∧ i = st ∧ Below w6.heap.size w6 Y ∧ Boxed Y w6.heap.size 3 (.int .i64 (i : Nat)))
    ?hI ?hIx ?hT ?h0
    (fun i Y => Y.alloc (.cells #[.int .i64 (L.getD i cy0).num, .int .i64 (L.getD i cy0).start, .int .i64 (L.getD i cy0).marked, .int .i64 (L.getD i cy0).rested, .int .i64 (L.getD i cy0).freed] 32)) (fun i Y => (Below.refl _ _).alloc (Nat.le_refl _) _)
    (fun i Y => { tmps := #[.slice p l.length cap, .int .u8 st, undef, .pointer (some ⟨W.heap.size, 0, none⟩), .pointer (some ⟨W.heap.size + 1, 0, none⟩), .slice p1 L.length c1, .pointer (some ⟨w3.heap.size, 0, none⟩), .func (.func 24) #[] #[.pointer (some ⟨B, 0, none⟩)], .pointer (some ⟨w6.heap.size, 0, none⟩), .int .i64 (i : Nat), .pointer (some ⟨Y.heap.size, 0, none⟩), undef, .slice p l.length cap, .int .i64 l.length, .bool false, undef, .slice p l.length cap, .slice p1 L.length c1, .slice p l.length cap, .slice p2 L.length c2, .slice p1 L.length c1, .slice p2 L.length c2, .bool true, .bool false, .slice p l.length cap, .func (.func 24) #[] #[.pointer (some ⟨B, 0, none⟩)], .func (.func 24) #[] #[.pointer (some ⟨B, 0, none⟩)], .bool false, .func (.func 24) #[] #[.pointer (some ⟨B, 0, none⟩)], .int .i64 (i : Nat), (L.getD i cy0).agg, undef, undef, undef, undef, undef, undef, undef, undef, undef, undef, undef, undef, undef, undef, undef, undef, undef, undef, undef, undef, undef, undef, undef, undef, undef, undef, undef, undef, undef, undef, undef, undef, undef, undef, undef, undef, undef, undef, undef, undef, undef, undef, undef, undef], defers := [] }) ?assign ?body ?done ?stop
  case hI =>
    rintro O i Y Y' ⟨h1, h2, h3, h4⟩ hb _
    have := HSX.out
    exact ⟨h1, h2, h3.trans (hb.mono (by omega)), Boxed.below h4 hb (by omega)⟩
  case hIx =>
    rintro cc O i Y Y' ⟨h0, h1, h2, h3, h4⟩ hb _
    have := HSX.out
    exact ⟨h0, h1, h2, h3.trans (hb.mono (by omega)), Boxed.below h4 hb (by omega)⟩
  case hT =>
    rintro O i Y ⟨_, _, h, _⟩
    exact ⟨(h.cell (p := ⟨B, 0, none⟩) (lt_of_cell HBC.out)).trans HBC.out, HR36.out.later h⟩
  case h0 => exact ⟨fun _ => False, ⟨fun _ h => h, by omega, HBX.out, HXN.out⟩, fun _ h => h.elim⟩
  case assign =>
    intro l' i W0 K hi hK
    unfold encC
    generalize L.getD i cy0 = x at *
    obtain ⟨xn, xs, xm, xr, xf⟩ := x
    unfold Cy.agg at hK ⊢
    simp only at hK ⊢
    gi_wp2
    exact hK
  case body =>
    rintro l' O i Y r hD hlY hi ⟨hO, hst2, h1, h2⟩ hlt hsY hOl
    have hsx := HSX.out
    have hYs : Below Y.heap.size Y (Y.alloc (.cells #[.int .i64 (L.getD i cy0).num, .int .i64 (L.getD i cy0).start, .int .i64 (L.getD i cy0).marked, .int .i64 (L.getD i cy0).rested, .int .i64 (L.getD i cy0).freed] 32)) := (Below.refl _ _).alloc (Nat.le_refl _) _
    have hnw := World.cell?_alloc_new Y #[.int .i64 (L.getD i cy0).num, .int .i64 (L.getD i cy0).start, .int .i64 (L.getD i cy0).marked, .int .i64 (L.getD i cy0).rested, .int .i64 (L.getD i cy0).freed] 32
    generalize hY1 : Y.alloc (.cells #[.int .i64 (L.getD i cy0).num, .int .i64 (L.getD i cy0).start, .int .i64 (L.getD i cy0).marked, .int .i64 (L.getD i cy0).rested, .int .i64 (L.getD i cy0).freed] 32) = Y1 at *
    have hZ : Below X.heap.size Y (Y1.putObj l' (.loop r)) := (hYs.mono (by omega)).trans (below_putObj (by omega) _ _)
    have hbZ : Below w6.heap.size w6 (Y1.putObj l' (.loop r)) := h1.trans (hZ.mono (by omega))
    have hxZ : Boxed (Y1.putObj l' (.loop r)) w6.heap.size 3 (.int .i64 (i : Nat)) := Boxed.below h2 hZ (by omega)
    have hnZ : ∀ t, (Y1.putObj l' (.loop r)).cell? ⟨Y.heap.size, t, none⟩ = Y1.cell? ⟨Y.heap.size, t, none⟩ := fun t => cell_of_block (World.putObj_heap_other (by simp; omega))
    have hX0 := Boxed.below HX06.out hbZ HX06.out.lt
    have hX6 := Boxed.below HX66.out hbZ HX66.out.lt
    have hR2 := HR26.out.later hbZ
    have hci := HI.out _ (show L.getD i cy0 ∈ L by rw [List.getD_eq_getElem?_getD, List.getElem?_eq_getElem hi]; exact List.getElem_mem hi)
    have HTZ := Lib.hid (HT.out.later (HB6.out.trans (hbZ.mono HB6.out.size)))
    have hYZ : Y.heap.size < (Y1.putObj l' (.loop r)).heap.size := by rw [World.putObj_size, ← hY1]; simp
    obtain ⟨Z, hZe⟩ : ∃ Z, Y1.putObj l' (.loop r) = Z := ⟨_, rfl⟩
    rw [hZe] at hbZ hxZ hnZ hX0 hX6 hR2 HTZ hZ hYZ
    rw [hZe]
    obtain ⟨b2, off2, rfl, d0, d1, d2, d3, d4⟩ := hR2 i hi
    have f0 := (hnZ 0).trans (hnw 0)
    have f1 := (hnZ 1).trans (hnw 1)
    have f2 := (hnZ 2).trans (hnw 2)
    have f3 := (hnZ 3).trans (hnw 3)
    have f4 := (hnZ 4).trans (hnw 4)
    have HLN : Hid (∀ w, Below Z.heap.size Z w → Calls Tryd.prog 12 #[.agg #[.int .i64 (L.getD i cy0).num, .int .i64 (L.getD i cy0).start, .int .i64 (L.getD i cy0).marked, .int .i64 (L.getD i cy0).rested, .int .i64 (L.getD i cy0).freed]] w fun x w' => x = .returned (.string (bs (lineC (L.getD i cy0)))) ∧ Below w.heap.size w w') := Lib.hid fun w hw => line_any _ hci w (HTZ.out.later hw)
    have HLL : Hid (∀ w, Calls Tryd.prog 13 #[.agg #[.int .i64 (L.getD i cy0).num, .int .i64 (L.getD i cy0).start, .int .i64 (L.getD i cy0).marked, .int .i64 (L.getD i cy0).rested, .int .i64 (L.getD i cy0).freed]] w fun x w' => x = .returned (.string (bs (lineC (L.getD i cy0)))) ∧ Below w.heap.size w w') := Lib.hid fun w => lawline_any _ hci w
    generalize bs (lineC (L.getD i cy0)) = S at *
    generalize hx : L.getD i cy0 = x at *
    clear hx hci hnZ hnw hR2 hY1 hZe hYs
    obtain ⟨xn, xs, xm, xr, xf⟩ := x
    simp only at d0 d1 d2 d3 d4 f0 f1 f2 f3 f4 HLN HLL
    have e10 := cell_regrown (show Z.cell? ⟨Y.heap.size, 0, none⟩ = some (.int .i64 xn) from f0)
    have e11 := cell_regrown (show Z.cell? ⟨Y.heap.size, 1, none⟩ = some (.int .i64 xs) from f1)
    have e12 := cell_regrown (show Z.cell? ⟨Y.heap.size, 2, none⟩ = some (.int .i64 xm) from f2)
    have e13 := cell_regrown (show Z.cell? ⟨Y.heap.size, 3, none⟩ = some (.int .i64 xr) from f3)
    have e14 := cell_regrown (show Z.cell? ⟨Y.heap.size, 4, none⟩ = some (.int .i64 xf) from f4)
    have e20 := cell_regrown d0
    have e21 := cell_regrown d1
    have e22 := cell_regrown d2
    have e23 := cell_regrown d3
    have e24 := cell_regrown d4
    have k0 := hxZ.cell
    have kz := hxZ.frozen
    have k3 := hX0.cell
    have k6 := hX6.cell
    have e8 := cell_regrown k0
    have e3 := cell_regrown k3
    have e6 := cell_regrown k6
    have HNE : Hid (W.heap.size ≠ w6.heap.size) := Lib.hid (by have := HX06.out.lt; omega)
    have HXZ := Lib.hid hxZ
    have HBZ := Lib.hid hbZ
    have HOO := Lib.hid hO
    have HYZ := Lib.hid (show w6.heap.size < Y.heap.size by have := h1.size; have := h2.lt; omega)
    have HSZ := Lib.hid (show X.heap.size ≤ Z.heap.size from Nat.le_trans (by omega) hZ.size)
    have HGR : Hid (∀ d os, Below Z.heap.size Z (Sort.grow (redrawn Z d) os)) := Lib.hid fun d os => below_regrown Z d os
    have HPOST : Hid (∀ Z5 z, Below Z.heap.size Z Z5 → z = ((i + 1 : Nat) : Int) → Turn X.heap.size O O Z (Z5.setCell ⟨w6.heap.size, 0, none⟩ (.int .i64 z)) ∧ Below w6.heap.size w6 (Z5.setCell ⟨w6.heap.size, 0, none⟩ (.int .i64 z)) ∧ Boxed (Z5.setCell ⟨w6.heap.size, 0, none⟩ (.int .i64 z)) w6.heap.size 3 (.int .i64 ((i + 1 : Nat) : Int))) := Lib.hid fun Z5 z hb hz => by
      subst hz
      have hq := Boxed.below HXZ.out hb HXZ.out.lt
      exact ⟨⟨by simp [World.setCell]; exact hb.size, fun k g1 g2 _ => (Below.heap_setCell _ _ _ _ (by show k ≠ w6.heap.size; omega)).trans (hb.block k g2), fun k hk => .inl hk, fun k hk => absurd hk (HOO.out k)⟩, (HBZ.out.trans (hb.mono HBZ.out.size)).setCell (Nat.le_refl _) _, hq.set _⟩
    have n1 : ((i : Int) != (i : Int)) = false := by simp
    have n2 : decide ((L.length : Int) ≤ (i : Int)) = false := by simp; omega
    have n2b : decide (L.length ≤ i) = false := by simp; omega
    have n3 : (S.toList == S.toList) = true := by simp
    have n4 : (S.toList != S.toList) = false := by simp
    have a0 : (xn == xn) = true := by simp
    have a1 : (xs == xs) = true := by simp
    have a2 : (xm == xm) = true := by simp
    have a3 : (xr == xr) = true := by simp
    have a4 : (xf == xf) = true := by simp
    have j0 : (0 : Int) ≤ (i : Int) := Int.natCast_nonneg _
    have j1 : (i : Int) < (L.length : Int) := by omega
    have j2 : (i : Int) + 1 ≤ 9223372036854775807 := by have := HLE.out; omega
    clear hxZ hbZ hX0 hX6 hlt hO hOl hZ h1 h2 hsY hlY hD hYZ d0 d1 d2 d3 d4 f0 f1 f2 f3 f4
    unfold Cy.agg
    simp only
    by_cases he : i + 1 = st
    · have hez : ((i : Int) + 1 == (st : Int)) = true := by simp; omega
      gi_wp2
      refine region_belowR (by kernel_rfl) (by kernel_rfl) (by kernel_rfl) ?_
      repeat (gi_big_quiet_step (first
        | (gi_at_call 12; exact regrownR_of (HLN.out _ (HGR.out _ _)))
        | (gi_at_call 13; exact regrownR_of (HLL.out _))))
      refine wpQuietIn_nil ?_
      intro Z5 hw'
      have hb5 := below_of_regrown hw'
      have HZ5 := Lib.hid hb5
      have v0 := (hb5.cell (p := ⟨w6.heap.size, 0, none⟩) (lt_of_cell k0)).trans k0
      have vz := (hb5.frozen (p := ⟨w6.heap.size, 0, none⟩) (lt_of_cell k0)).trans kz
      have v3 := (hb5.cell (p := ⟨W.heap.size, 0, none⟩) (lt_of_cell k3)).trans k3
      have hne : W.heap.size ≠ w6.heap.size := HNE.out
      clear hw' hb5 e10 e11 e12 e13 e14 e20 e21 e22 e23 e24 e3 e6 e8 k0 kz k3
      gi_wp2
      exact ⟨O, (HPOST.out Z5 _ HZ5.out rfl).1, rfl, HOO.out, he, (HPOST.out Z5 _ HZ5.out rfl).2⟩
    · have hez : ((i : Int) + 1 == (st : Int)) = false := by simp; omega
      gi_wp2
      refine region_belowR (by kernel_rfl) (by kernel_rfl) (by kernel_rfl) ?_
      repeat (gi_big_quiet_step (first
        | (gi_at_call 12; exact regrownR_of (HLN.out _ (HGR.out _ _)))
        | (gi_at_call 13; exact regrownR_of (HLL.out _))))
      refine wpQuietIn_nil ?_
      intro Z5 hw'
      have hb5 := below_of_regrown hw'
      have HZ5 := Lib.hid hb5
      have v0 := (hb5.cell (p := ⟨w6.heap.size, 0, none⟩) (lt_of_cell k0)).trans k0
      have vz := (hb5.frozen (p := ⟨w6.heap.size, 0, none⟩) (lt_of_cell k0)).trans kz
      have v3 := (hb5.cell (p := ⟨W.heap.size, 0, none⟩) (lt_of_cell k3)).trans k3
      have hne : W.heap.size ≠ w6.heap.size := HNE.out
      clear hw' hb5 e10 e11 e12 e13 e14 e20 e21 e22 e23 e24 e3 e6 e8 k0 kz k3
      gi_wp2
      exact ⟨O, (HPOST.out Z5 _ HZ5.out rfl).1, HOO.out, by omega, (HPOST.out Z5 _ HZ5.out rfl).2⟩
  case done =>
    rintro D O Y hD ⟨hO, hst2, h1, h2⟩ hn hlt hK
    have hsx := HSX.out
    have hY6 := Boxed.below HX66.out h1 HX66.out.lt
    have hY0 := Boxed.below HX06.out h1 HX06.out.lt
    have hY1 := Boxed.below HX16.out h1 HX16.out.lt
    have k3 := hY0.cell
    have k6 := hY6.cell
    have kr := hY1.cell
    have fr := hY1.frozen
    have lr := hY1.lt
    have kn0 := h2.cell
    have hBY : Below W.heap.size W Y := HB6.out.trans (h1.mono HB6.out.size)
    have hlw := HX16.out.lt
    have HAY := Lib.hid (awake_any Y (HT.out.later hBY))
    have HFIN : Hid (∀ w4, Below Y.heap.size Y w4 → Below W.heap.size W ((w4.setCell ⟨W.heap.size + 1, 0, none⟩ (.bool true)).putObj D (.deferred none)) ∧ ((w4.setCell ⟨W.heap.size + 1, 0, none⟩ (.bool true)).putObj D (.deferred none)).cell? ⟨W.heap.size + 1, 0, none⟩ = some (.bool true) ∧ (w4.setCell ⟨W.heap.size + 1, 0, none⟩ (.bool true)).heap[D]? = some (.deferred (some []))) := Lib.hid fun w4 hb => by
      have hlD := (Array.getElem?_eq_some_iff.1 hK).1
      have hb1 : Below W.heap.size W w4 := hBY.trans (hb.mono hBY.size)
      have hb2 := Boxed.below hY1 hb lr
      refine ⟨(hb1.setCell (by show W.heap.size ≤ W.heap.size + 1; omega) _).trans (below_putObj (by omega) _ _), (cell_of_block (a := ⟨W.heap.size + 1, 0, none⟩) (World.putObj_heap_other (by simp; omega))).trans (same hb2.cell), (Below.heap_setCell _ _ _ _ (by show D ≠ W.heap.size + 1; omega)).trans ((hb.block D hlD).trans hK)⟩
    have l100 : (L.length : Int) ≤ 100 := by have := HLE.out; omega
    have nn : ((L.length : Int) == (L.length : Int)) = true := by simp
    have ns : ((st : Int) == (st : Int)) = true := by simp
    clear hY6 hY0 hY1 hBY h1 h2 hlt hn hO hK hlw hsx
    by_cases hs0 : st = 0
    · subst hs0
      gi_wp2_with (gi_at_call 7; refine (callsIn_wide.2 HAY.out).mono ?_; rintro e w9 ⟨rfl, hb9⟩; have k64 := (hb9.cell (p := ⟨W.heap.size + 1, 0, none⟩) lr).trans kr; have f64 := (frozen_of_block (a := ⟨W.heap.size + 1, 0, none⟩) (hb9.block _ lr)).trans fr)
      have hfin := HFIN.out w9 hb9
      have HF := Lib.hid hfin
      have kf := hfin.2.1
      have hKf := hfin.2.2
      clear hfin hb9 k64 f64
      refine ⟨by simp, .inl ⟨_, _, rfl, run_takeDeferred hKf, ?_⟩⟩
      exact ⟨.bool true, by simp [results, Tryd.results3, go_sem, kf], rfl, HF.out.1⟩
    · have s0 : (0 : Int) < (st : Int) := by omega
      have m0 : min (L.length : Int) (st : Int) = (L.length : Int) := by omega
      gi_wp2_with (gi_at_call 7; refine (callsIn_wide.2 HAY.out).mono ?_; rintro e w9 ⟨rfl, hb9⟩; have k64 := (hb9.cell (p := ⟨W.heap.size + 1, 0, none⟩) lr).trans kr; have f64 := (frozen_of_block (a := ⟨W.heap.size + 1, 0, none⟩) (hb9.block _ lr)).trans fr)
      have hfin := HFIN.out w9 hb9
      have HF := Lib.hid hfin
      have kf := hfin.2.1
      have hKf := hfin.2.2
      clear hfin hb9 k64 f64
      refine ⟨by simp, .inl ⟨_, _, rfl, run_takeDeferred hKf, ?_⟩⟩
      exact ⟨.bool true, by simp [results, Tryd.results3, go_sem, kf], rfl, HF.out.1⟩
  case stop =>
    rintro D cc O i Y hD hi ⟨rfl, hO, hst2, h1, h2⟩ hn hlt hK
    rw [hst2] at h2
    have hsx := HSX.out
    have hY6 := Boxed.below HX66.out h1 HX66.out.lt
    have hY0 := Boxed.below HX06.out h1 HX06.out.lt
    have hY1 := Boxed.below HX16.out h1 HX16.out.lt
    have k3 := hY0.cell
    have k6 := hY6.cell
    have kr := hY1.cell
    have fr := hY1.frozen
    have lr := hY1.lt
    have kn0 := h2.cell
    have hBY : Below W.heap.size W Y := HB6.out.trans (h1.mono HB6.out.size)
    have hlw := HX16.out.lt
    have HAY := Lib.hid (awake_any Y (HT.out.later hBY))
    have HFIN : Hid (∀ w4, Below Y.heap.size Y w4 → Below W.heap.size W ((w4.setCell ⟨W.heap.size + 1, 0, none⟩ (.bool true)).putObj D (.deferred none)) ∧ ((w4.setCell ⟨W.heap.size + 1, 0, none⟩ (.bool true)).putObj D (.deferred none)).cell? ⟨W.heap.size + 1, 0, none⟩ = some (.bool true) ∧ (w4.setCell ⟨W.heap.size + 1, 0, none⟩ (.bool true)).heap[D]? = some (.deferred (some []))) := Lib.hid fun w4 hb => by
      have hlD := (Array.getElem?_eq_some_iff.1 hK).1
      have hb1 : Below W.heap.size W w4 := hBY.trans (hb.mono hBY.size)
      have hb2 := Boxed.below hY1 hb lr
      refine ⟨(hb1.setCell (by show W.heap.size ≤ W.heap.size + 1; omega) _).trans (below_putObj (by omega) _ _), (cell_of_block (a := ⟨W.heap.size + 1, 0, none⟩) (World.putObj_heap_other (by simp; omega))).trans (same hb2.cell), (Below.heap_setCell _ _ _ _ (by show D ≠ W.heap.size + 1; omega)).trans ((hb.block D hlD).trans hK)⟩
    have l100 : (L.length : Int) ≤ 100 := by have := HLE.out; omega
    have nn : ((L.length : Int) == (L.length : Int)) = true := by simp
    have ns : ((st : Int) == (st : Int)) = true := by simp
    clear hY6 hY0 hY1 hBY h1 h2 hlt hn hO hK hlw hsx
    have s0 : (0 : Int) < (st : Int) := by omega
    have m0 : min (L.length : Int) (st : Int) = (st : Int) := by omega
    gi_wp2_with (gi_at_call 7; refine (callsIn_wide.2 HAY.out).mono ?_; rintro e w9 ⟨rfl, hb9⟩; have k64 := (hb9.cell (p := ⟨W.heap.size + 1, 0, none⟩) lr).trans kr; have f64 := (frozen_of_block (a := ⟨W.heap.size + 1, 0, none⟩) (hb9.block _ lr)).trans fr)
    have hfin := HFIN.out w9 hb9
    have HF := Lib.hid hfin
    have kf := hfin.2.1
    have hKf := hfin.2.2
    clear hfin hb9 k64 f64
    refine ⟨by simp, .inl ⟨_, _, rfl, run_takeDeferred hKf, ?_⟩⟩
    exact ⟨.bool true, by simp [results, Tryd.results3, go_sem, kf], rfl, HF.out.1⟩
theorem cyclesL_walk (p : Option Addr) (cap : Nat) (l : List Ev) (st : Nat) (hst : st < 256) (W : World) (ht : LibTab W) (h : EvAt W p l) (hcap : l.length ≤ cap) (hcm : cap ≤ maxLen) (hi : ∀ e ∈ l, EvI e) :
    Calls Tryd.prog 3 #[.slice p l.length cap, .int .u8 st] W fun x w' => x = .returned (.bool true) ∧ Below W.heap.size W w' := by
  by_cases hb : 100 < l.length
  · exact cycles_big p l.length cap st W ht hb
  · exact cycles_walk p cap l st hst W ht h (by omega) hcap hcm hi
end Go.Proofs.YtodfkklkgcoddaaDoor.Ss
