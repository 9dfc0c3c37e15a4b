/-
  The document's address of a place, for every config, class and place.
-/
import Derived.Test.YtkfgchhlekdpgaaGreatDoorAdr
import Derived.Lib.QuietBelow
namespace Go.Proofs.YtkfgchhlekdpgaaGreatDoor.Addr
open Go.RowKit Go.Sort
open Class (SizTab isB sizI perI isB_true isB_false sizI_bd sizI_no perI_yes perI_noC perI_noW wordsB wordsB_true refper_any refsize_any refis_any quiet_left below_drewN)

theorem below_of_regrown {w w' : World} (h : ∃ p : Regrown, w' = grow (redrawn w p.d) p.os) : Below w.heap.size w w' := by
  obtain ⟨p, rfl⟩ := h
  exact below_regrown w p.d p.os
theorem below_left {P : Program} {f : FuncId} {args : Array Value} {w : World} {v : Value} (h : Calls P f args w fun e w' => e = .returned v ∧ w = w') : Calls P f args w fun e w' => e = .returned v ∧ Below w.heap.size w w' :=
  h.mono fun _ _ ⟨he, hw⟩ => ⟨he, hw ▸ Below.refl _ _⟩

/-- A config's box, and a place's behind it, cell by cell. -/
theorem two_boxes {w W0 : World} {t t' : TypeId} {b wd m r ce lg st block slot word : Int}
    (hW : (w.alloc (.cells #[.int .i64 b, .int .i64 wd, .int .i64 m, .int .i64 r, .int .i64 ce, .int .i64 lg, .int .i64 st] t)).alloc (.cells #[.int .i64 block, .int .i64 slot, .int .i64 word] t') = W0) :
    (W0.heap.size = w.heap.size + 2 ∧ Below w.heap.size w W0) ∧ (W0.cell? ⟨w.heap.size, 0, none⟩ = some (.int .i64 b) ∧ W0.cell? ⟨w.heap.size, 1, none⟩ = some (.int .i64 wd) ∧ W0.cell? ⟨w.heap.size, 2, none⟩ = some (.int .i64 m) ∧ W0.cell? ⟨w.heap.size, 3, none⟩ = some (.int .i64 r)
      ∧ W0.cell? ⟨w.heap.size, 4, none⟩ = some (.int .i64 ce) ∧ W0.cell? ⟨w.heap.size, 5, none⟩ = some (.int .i64 lg) ∧ W0.cell? ⟨w.heap.size, 6, none⟩ = some (.int .i64 st))
    ∧ (W0.cell? ⟨w.heap.size + 1, 0, none⟩ = some (.int .i64 block) ∧ W0.cell? ⟨w.heap.size + 1, 1, none⟩ = some (.int .i64 slot) ∧ W0.cell? ⟨w.heap.size + 1, 2, none⟩ = some (.int .i64 word)) := by
  subst hW
  refine ⟨⟨by simp, ((Below.refl _ _).alloc (Nat.le_refl _) _).alloc (by simp) _⟩, ⟨?_, ?_, ?_, ?_, ?_, ?_, ?_⟩, ?_, ?_, ?_⟩ <;> go_simp

/-- The answer that the document gives. -/
def NumP (w : World) (x : Int) (e : Ending) (w' : World) : Prop := e = .returned (.int .i64 x) ∧ Below w.heap.size w w'

set_option maxHeartbeats 4000000 in
theorem refof_0 (b wd m r ce lg st k block slot word : Int) (w : World) (hrr : refRightB b wd m r ce lg st = false) :
    Calls Tryz.prog 206 #[.agg #[.int .i64 b, .int .i64 wd, .int .i64 m, .int .i64 r, .int .i64 ce, .int .i64 lg, .int .i64 st], .int .i64 k, .agg #[.int .i64 block, .int .i64 slot, .int .i64 word]] w
      (NumP w 0) := by
  go_enter Tryz.func206, Tryz.ntmps206
  go_wp2
  generalize hW : World.alloc _ _ = W0
  obtain ⟨⟨hsz, hb0⟩, ⟨c0, c1, c2, c3, c4, c5, c6⟩, d0, d1, d2⟩ := two_boxes hW
  clear hW
  have k0 := cell_regrown c0
  have k1 := cell_regrown c1
  have k2 := cell_regrown c2
  have k3 := cell_regrown c3
  have k4 := cell_regrown c4
  have k5 := cell_regrown c5
  have k6 := cell_regrown c6
  have j0 := cell_regrown d0
  have j1 := cell_regrown d1
  have j2 := cell_regrown d2
  refine wp_region_quiet_below (by kernel_rfl) (by kernel_rfl) ?_
  repeat (go_big_quiet_step ((first
    | (go_at_call 58; exact Calls.regrown_of (refright_any _ _ _ _ _ _ _ _))
    | (go_at_call 147; exact Calls.regrown_of (below_left (refis_any _ _)))
    | (go_at_call 205; exact Calls.regrown_of (below_left (refper_any _ _ _)))
    | (go_at_call 93; exact Calls.regrown_of (below_left (refsize_any _ _))))))
  refine wpQuiet_nil ?_
  intro W1 hw'
  have hb1 := below_of_regrown hw'
  obtain ⟨hc, hf⟩ := bcell hb1
  clear hw' k0 k1 k2 k3 k4 k5 k6 j0 j1 j2
  go_wp2
  go_ret
  exact ⟨rfl, hb0.trans (hb1.mono (by omega))⟩

set_option maxHeartbeats 4000000 in
theorem refof_1 (b wd m r ce lg st k block slot word : Int) (w : World) (hrr : refRightB b wd m r ce lg st = true) (hkk : isB k = false) :
    Calls Tryz.prog 206 #[.agg #[.int .i64 b, .int .i64 wd, .int .i64 m, .int .i64 r, .int .i64 ce, .int .i64 lg, .int .i64 st], .int .i64 k, .agg #[.int .i64 block, .int .i64 slot, .int .i64 word]] w
      (NumP w 0) := by
  go_enter Tryz.func206, Tryz.ntmps206
  go_wp2
  generalize hW : World.alloc _ _ = W0
  obtain ⟨⟨hsz, hb0⟩, ⟨c0, c1, c2, c3, c4, c5, c6⟩, d0, d1, d2⟩ := two_boxes hW
  clear hW
  have k0 := cell_regrown c0
  have k1 := cell_regrown c1
  have k2 := cell_regrown c2
  have k3 := cell_regrown c3
  have k4 := cell_regrown c4
  have k5 := cell_regrown c5
  have k6 := cell_regrown c6
  have j0 := cell_regrown d0
  have j1 := cell_regrown d1
  have j2 := cell_regrown d2
  refine wp_region_quiet_below (by kernel_rfl) (by kernel_rfl) ?_
  repeat (go_big_quiet_step ((first
    | (go_at_call 58; exact Calls.regrown_of (refright_any _ _ _ _ _ _ _ _))
    | (go_at_call 147; exact Calls.regrown_of (below_left (refis_any _ _)))
    | (go_at_call 205; exact Calls.regrown_of (below_left (refper_any _ _ _)))
    | (go_at_call 93; exact Calls.regrown_of (below_left (refsize_any _ _))))))
  refine wpQuiet_nil ?_
  intro W1 hw'
  have hb1 := below_of_regrown hw'
  obtain ⟨hc, hf⟩ := bcell hb1
  clear hw' k0 k1 k2 k3 k4 k5 k6 j0 j1 j2
  go_wp2
  go_ret
  exact ⟨rfl, hb0.trans (hb1.mono (by omega))⟩

set_option maxHeartbeats 4000000 in
theorem refof_2 (b wd m r ce lg st k block slot word : Int) (w : World) (hrr : refRightB b wd m r ce lg st = true) (hkk : isB k = true) (a2 : decide (block < 0) = true) :
    Calls Tryz.prog 206 #[.agg #[.int .i64 b, .int .i64 wd, .int .i64 m, .int .i64 r, .int .i64 ce, .int .i64 lg, .int .i64 st], .int .i64 k, .agg #[.int .i64 block, .int .i64 slot, .int .i64 word]] w
      (NumP w 0) := by
  go_enter Tryz.func206, Tryz.ntmps206
  go_wp2
  generalize hW : World.alloc _ _ = W0
  obtain ⟨⟨hsz, hb0⟩, ⟨c0, c1, c2, c3, c4, c5, c6⟩, d0, d1, d2⟩ := two_boxes hW
  clear hW
  have k0 := cell_regrown c0
  have k1 := cell_regrown c1
  have k2 := cell_regrown c2
  have k3 := cell_regrown c3
  have k4 := cell_regrown c4
  have k5 := cell_regrown c5
  have k6 := cell_regrown c6
  have j0 := cell_regrown d0
  have j1 := cell_regrown d1
  have j2 := cell_regrown d2
  refine wp_region_quiet_below (by kernel_rfl) (by kernel_rfl) ?_
  repeat (go_big_quiet_step ((first
    | (go_at_call 58; exact Calls.regrown_of (refright_any _ _ _ _ _ _ _ _))
    | (go_at_call 147; exact Calls.regrown_of (below_left (refis_any _ _)))
    | (go_at_call 205; exact Calls.regrown_of (below_left (refper_any _ _ _)))
    | (go_at_call 93; exact Calls.regrown_of (below_left (refsize_any _ _))))))
  refine wpQuiet_nil ?_
  intro W1 hw'
  have hb1 := below_of_regrown hw'
  obtain ⟨hc, hf⟩ := bcell hb1
  clear hw' k0 k1 k2 k3 k4 k5 k6 j0 j1 j2
  go_wp2
  go_ret
  exact ⟨rfl, hb0.trans (hb1.mono (by omega))⟩

set_option maxHeartbeats 4000000 in
theorem refof_3 (b wd m r ce lg st k block slot word : Int) (w : World) (hrr : refRightB b wd m r ce lg st = true) (hkk : isB k = true) (a2 : decide (block < 0) = false) (a3 : decide (b ≤ block) = true) :
    Calls Tryz.prog 206 #[.agg #[.int .i64 b, .int .i64 wd, .int .i64 m, .int .i64 r, .int .i64 ce, .int .i64 lg, .int .i64 st], .int .i64 k, .agg #[.int .i64 block, .int .i64 slot, .int .i64 word]] w
      (NumP w 0) := by
  go_enter Tryz.func206, Tryz.ntmps206
  go_wp2
  generalize hW : World.alloc _ _ = W0
  obtain ⟨⟨hsz, hb0⟩, ⟨c0, c1, c2, c3, c4, c5, c6⟩, d0, d1, d2⟩ := two_boxes hW
  clear hW
  have k0 := cell_regrown c0
  have k1 := cell_regrown c1
  have k2 := cell_regrown c2
  have k3 := cell_regrown c3
  have k4 := cell_regrown c4
  have k5 := cell_regrown c5
  have k6 := cell_regrown c6
  have j0 := cell_regrown d0
  have j1 := cell_regrown d1
  have j2 := cell_regrown d2
  refine wp_region_quiet_below (by kernel_rfl) (by kernel_rfl) ?_
  repeat (go_big_quiet_step ((first
    | (go_at_call 58; exact Calls.regrown_of (refright_any _ _ _ _ _ _ _ _))
    | (go_at_call 147; exact Calls.regrown_of (below_left (refis_any _ _)))
    | (go_at_call 205; exact Calls.regrown_of (below_left (refper_any _ _ _)))
    | (go_at_call 93; exact Calls.regrown_of (below_left (refsize_any _ _))))))
  refine wpQuiet_nil ?_
  intro W1 hw'
  have hb1 := below_of_regrown hw'
  obtain ⟨hc, hf⟩ := bcell hb1
  clear hw' k0 k1 k2 k3 k4 k5 k6 j0 j1 j2
  go_wp2
  go_ret
  exact ⟨rfl, hb0.trans (hb1.mono (by omega))⟩

set_option maxHeartbeats 4000000 in
theorem refof_4 (b wd m r ce lg st k block slot word : Int) (w : World) (hrr : refRightB b wd m r ce lg st = true) (hkk : isB k = true) (a2 : decide (block < 0) = false) (a3 : decide (b ≤ block) = false) (a4 : decide (slot < 0) = true) :
    Calls Tryz.prog 206 #[.agg #[.int .i64 b, .int .i64 wd, .int .i64 m, .int .i64 r, .int .i64 ce, .int .i64 lg, .int .i64 st], .int .i64 k, .agg #[.int .i64 block, .int .i64 slot, .int .i64 word]] w
      (NumP w 0) := by
  go_enter Tryz.func206, Tryz.ntmps206
  go_wp2
  generalize hW : World.alloc _ _ = W0
  obtain ⟨⟨hsz, hb0⟩, ⟨c0, c1, c2, c3, c4, c5, c6⟩, d0, d1, d2⟩ := two_boxes hW
  clear hW
  have k0 := cell_regrown c0
  have k1 := cell_regrown c1
  have k2 := cell_regrown c2
  have k3 := cell_regrown c3
  have k4 := cell_regrown c4
  have k5 := cell_regrown c5
  have k6 := cell_regrown c6
  have j0 := cell_regrown d0
  have j1 := cell_regrown d1
  have j2 := cell_regrown d2
  refine wp_region_quiet_below (by kernel_rfl) (by kernel_rfl) ?_
  repeat (go_big_quiet_step ((first
    | (go_at_call 58; exact Calls.regrown_of (refright_any _ _ _ _ _ _ _ _))
    | (go_at_call 147; exact Calls.regrown_of (below_left (refis_any _ _)))
    | (go_at_call 205; exact Calls.regrown_of (below_left (refper_any _ _ _)))
    | (go_at_call 93; exact Calls.regrown_of (below_left (refsize_any _ _))))))
  refine wpQuiet_nil ?_
  intro W1 hw'
  have hb1 := below_of_regrown hw'
  obtain ⟨hc, hf⟩ := bcell hb1
  clear hw' k0 k1 k2 k3 k4 k5 k6 j0 j1 j2
  go_wp2
  go_ret
  exact ⟨rfl, hb0.trans (hb1.mono (by omega))⟩

set_option maxHeartbeats 4000000 in
theorem refof_5 (b wd m r ce lg st k block slot word : Int) (w : World) (hrr : refRightB b wd m r ce lg st = true) (hkk : isB k = true) (a2 : decide (block < 0) = false) (a3 : decide (b ≤ block) = false) (a4 : decide (slot < 0) = false) (a5 : decide (perI wd k ≤ slot) = true) :
    Calls Tryz.prog 206 #[.agg #[.int .i64 b, .int .i64 wd, .int .i64 m, .int .i64 r, .int .i64 ce, .int .i64 lg, .int .i64 st], .int .i64 k, .agg #[.int .i64 block, .int .i64 slot, .int .i64 word]] w
      (NumP w 0) := by
  go_enter Tryz.func206, Tryz.ntmps206
  go_wp2
  generalize hW : World.alloc _ _ = W0
  obtain ⟨⟨hsz, hb0⟩, ⟨c0, c1, c2, c3, c4, c5, c6⟩, d0, d1, d2⟩ := two_boxes hW
  clear hW
  have k0 := cell_regrown c0
  have k1 := cell_regrown c1
  have k2 := cell_regrown c2
  have k3 := cell_regrown c3
  have k4 := cell_regrown c4
  have k5 := cell_regrown c5
  have k6 := cell_regrown c6
  have j0 := cell_regrown d0
  have j1 := cell_regrown d1
  have j2 := cell_regrown d2
  refine wp_region_quiet_below (by kernel_rfl) (by kernel_rfl) ?_
  repeat (go_big_quiet_step ((first
    | (go_at_call 58; exact Calls.regrown_of (refright_any _ _ _ _ _ _ _ _))
    | (go_at_call 147; exact Calls.regrown_of (below_left (refis_any _ _)))
    | (go_at_call 205; exact Calls.regrown_of (below_left (refper_any _ _ _)))
    | (go_at_call 93; exact Calls.regrown_of (below_left (refsize_any _ _))))))
  refine wpQuiet_nil ?_
  intro W1 hw'
  have hb1 := below_of_regrown hw'
  obtain ⟨hc, hf⟩ := bcell hb1
  clear hw' k0 k1 k2 k3 k4 k5 k6 j0 j1 j2
  go_wp2
  go_ret
  exact ⟨rfl, hb0.trans (hb1.mono (by omega))⟩

set_option maxHeartbeats 4000000 in
theorem refof_6 (b wd m r ce lg st k block slot word : Int) (w : World) (hrr : refRightB b wd m r ce lg st = true) (hkk : isB k = true) (a2 : decide (block < 0) = false) (a3 : decide (b ≤ block) = false) (a4 : decide (slot < 0) = false) (a5 : decide (perI wd k ≤ slot) = false) (a6 : decide (word < 0) = true) :
    Calls Tryz.prog 206 #[.agg #[.int .i64 b, .int .i64 wd, .int .i64 m, .int .i64 r, .int .i64 ce, .int .i64 lg, .int .i64 st], .int .i64 k, .agg #[.int .i64 block, .int .i64 slot, .int .i64 word]] w
      (NumP w 0) := by
  go_enter Tryz.func206, Tryz.ntmps206
  go_wp2
  generalize hW : World.alloc _ _ = W0
  obtain ⟨⟨hsz, hb0⟩, ⟨c0, c1, c2, c3, c4, c5, c6⟩, d0, d1, d2⟩ := two_boxes hW
  clear hW
  have k0 := cell_regrown c0
  have k1 := cell_regrown c1
  have k2 := cell_regrown c2
  have k3 := cell_regrown c3
  have k4 := cell_regrown c4
  have k5 := cell_regrown c5
  have k6 := cell_regrown c6
  have j0 := cell_regrown d0
  have j1 := cell_regrown d1
  have j2 := cell_regrown d2
  refine wp_region_quiet_below (by kernel_rfl) (by kernel_rfl) ?_
  repeat (go_big_quiet_step ((first
    | (go_at_call 58; exact Calls.regrown_of (refright_any _ _ _ _ _ _ _ _))
    | (go_at_call 147; exact Calls.regrown_of (below_left (refis_any _ _)))
    | (go_at_call 205; exact Calls.regrown_of (below_left (refper_any _ _ _)))
    | (go_at_call 93; exact Calls.regrown_of (below_left (refsize_any _ _))))))
  refine wpQuiet_nil ?_
  intro W1 hw'
  have hb1 := below_of_regrown hw'
  obtain ⟨hc, hf⟩ := bcell hb1
  clear hw' k0 k1 k2 k3 k4 k5 k6 j0 j1 j2
  go_wp2
  go_ret
  exact ⟨rfl, hb0.trans (hb1.mono (by omega))⟩

set_option maxHeartbeats 4000000 in
theorem refof_7 (b wd m r ce lg st k block slot word : Int) (w : World) (hrr : refRightB b wd m r ce lg st = true) (hkk : isB k = true) (a2 : decide (block < 0) = false) (a3 : decide (b ≤ block) = false) (a4 : decide (slot < 0) = false) (a5 : decide (perI wd k ≤ slot) = false) (a6 : decide (word < 0) = false) (a7 : decide (sizI k ≤ word) = true) :
    Calls Tryz.prog 206 #[.agg #[.int .i64 b, .int .i64 wd, .int .i64 m, .int .i64 r, .int .i64 ce, .int .i64 lg, .int .i64 st], .int .i64 k, .agg #[.int .i64 block, .int .i64 slot, .int .i64 word]] w
      (NumP w 0) := by
  go_enter Tryz.func206, Tryz.ntmps206
  go_wp2
  generalize hW : World.alloc _ _ = W0
  obtain ⟨⟨hsz, hb0⟩, ⟨c0, c1, c2, c3, c4, c5, c6⟩, d0, d1, d2⟩ := two_boxes hW
  clear hW
  have k0 := cell_regrown c0
  have k1 := cell_regrown c1
  have k2 := cell_regrown c2
  have k3 := cell_regrown c3
  have k4 := cell_regrown c4
  have k5 := cell_regrown c5
  have k6 := cell_regrown c6
  have j0 := cell_regrown d0
  have j1 := cell_regrown d1
  have j2 := cell_regrown d2
  refine wp_region_quiet_below (by kernel_rfl) (by kernel_rfl) ?_
  repeat (go_big_quiet_step ((first
    | (go_at_call 58; exact Calls.regrown_of (refright_any _ _ _ _ _ _ _ _))
    | (go_at_call 147; exact Calls.regrown_of (below_left (refis_any _ _)))
    | (go_at_call 205; exact Calls.regrown_of (below_left (refper_any _ _ _)))
    | (go_at_call 93; exact Calls.regrown_of (below_left (refsize_any _ _))))))
  refine wpQuiet_nil ?_
  intro W1 hw'
  have hb1 := below_of_regrown hw'
  obtain ⟨hc, hf⟩ := bcell hb1
  clear hw' k0 k1 k2 k3 k4 k5 k6 j0 j1 j2
  go_wp2
  go_ret
  exact ⟨rfl, hb0.trans (hb1.mono (by omega))⟩

set_option maxHeartbeats 4000000 in
theorem refof_8 (b wd m r ce lg st k block slot word : Int) (w : World) (hrr : refRightB b wd m r ce lg st = true) (hkk : isB k = true) (a2 : decide (block < 0) = false) (a3 : decide (b ≤ block) = false) (a4 : decide (slot < 0) = false) (a5 : decide (perI wd k ≤ slot) = false) (a6 : decide (word < 0) = false) (a7 : decide (sizI k ≤ word) = false) (x : Int) (hx : block * wd + 1 + slot * sizI k + word = x) (p0 : 0 ≤ block * wd) (p1 : block * wd ≤ 1048576) (q0 : 0 ≤ slot * sizI k) (q1 : slot * sizI k ≤ 256) (u0 : 0 ≤ word) (u1 : word ≤ 16) :
    Calls Tryz.prog 206 #[.agg #[.int .i64 b, .int .i64 wd, .int .i64 m, .int .i64 r, .int .i64 ce, .int .i64 lg, .int .i64 st], .int .i64 k, .agg #[.int .i64 block, .int .i64 slot, .int .i64 word]] w
      (NumP w x) := by
  have HX := Lib.hid hx
  have hw1 : IntKind.i64.wrap (block * wd) = block * wd := IntWalk.i64_in _ (by omega)
  have hw2 : IntKind.i64.wrap (1 + block * wd) = 1 + block * wd := IntWalk.i64_in _ (by omega)
  have hw3 : IntKind.i64.wrap (slot * sizI k) = slot * sizI k := IntWalk.i64_in _ (by omega)
  have hw4 : IntKind.i64.wrap (1 + block * wd + slot * sizI k) = 1 + block * wd + slot * sizI k := IntWalk.i64_in _ (by omega)
  have hw5 : IntKind.i64.wrap (1 + block * wd + slot * sizI k + word) = 1 + block * wd + slot * sizI k + word := IntWalk.i64_in _ (by omega)
  clear hx
  go_enter Tryz.func206, Tryz.ntmps206
  go_wp2
  generalize hW : World.alloc _ _ = W0
  obtain ⟨⟨hsz, hb0⟩, ⟨c0, c1, c2, c3, c4, c5, c6⟩, d0, d1, d2⟩ := two_boxes hW
  clear hW
  have k0 := cell_regrown c0
  have k1 := cell_regrown c1
  have k2 := cell_regrown c2
  have k3 := cell_regrown c3
  have k4 := cell_regrown c4
  have k5 := cell_regrown c5
  have k6 := cell_regrown c6
  have j0 := cell_regrown d0
  have j1 := cell_regrown d1
  have j2 := cell_regrown d2
  refine wp_region_quiet_below (by kernel_rfl) (by kernel_rfl) ?_
  repeat (go_big_quiet_step ((first
    | (go_at_call 58; exact Calls.regrown_of (refright_any _ _ _ _ _ _ _ _))
    | (go_at_call 147; exact Calls.regrown_of (below_left (refis_any _ _)))
    | (go_at_call 205; exact Calls.regrown_of (below_left (refper_any _ _ _)))
    | (go_at_call 93; exact Calls.regrown_of (below_left (refsize_any _ _))))))
  refine wpQuiet_nil ?_
  intro W1 hw'
  have hb1 := below_of_regrown hw'
  obtain ⟨hc, hf⟩ := bcell hb1
  clear hw' k0 k1 k2 k3 k4 k5 k6 j0 j1 j2
  go_wp2
  go_quiet ((go_at_call 93; exact quiet_left (refsize_any _ _)))
  go_wp2
  go_ret
  exact ⟨ret_int (by have := HX.out; omega), below_drewN (hb0.trans (hb1.mono (by omega))) _⟩

theorem refof_any (b wd m r ce lg st k block slot word : Int) (w : World) :
    Calls Tryz.prog 206 #[.agg #[.int .i64 b, .int .i64 wd, .int .i64 m, .int .i64 r, .int .i64 ce, .int .i64 lg, .int .i64 st], .int .i64 k, .agg #[.int .i64 block, .int .i64 slot, .int .i64 word]] w
      (NumP w (ofI (rightB b wd m r ce lg st) b wd k block slot word)) := by
  by_cases hy : ofB (rightB b wd m r ce lg st) b wd k block slot word = true
  · obtain ⟨hs, u0, u1⟩ := ofB_true.1 hy
    obtain ⟨hr, hk, g0, g1⟩ := sltB_true.1 hs
    have hR : RightC b wd m r ce lg st := refRightB_true.1 ((rightB_ref ..).symm.trans hr)
    obtain ⟨p0, p1⟩ := first_bd hR hk
    obtain ⟨hkk, s0, s1, q0, q1, q2⟩ := slot_bd g0 g1
    obtain ⟨h0, h1⟩ := blkB_true.1 hk
    rw [ofI_yes hy]
    exact refof_8 b wd m r ce lg st k block slot word w ((rightB_ref ..).symm.trans hr) hkk (by simp; omega) (by simp; omega) (by simp; omega) (by simp; omega) (by simp; omega) (by simp; omega) _ rfl p0 p1 q0 (by omega) u0 (by omega)
  · have hn : ofB (rightB b wd m r ce lg st) b wd k block slot word = false := by simpa using hy
    rw [ofI_no hn]
    rw [ofB_true, sltB_true, blkB_true] at hy
    by_cases hr : rightB b wd m r ce lg st = true
    · have hrr := (rightB_ref b wd m r ce lg st).symm.trans hr
      by_cases hkk : isB k = true
      · by_cases g2 : 0 ≤ block
        · by_cases g3 : block < b
          · by_cases g4 : 0 ≤ slot
            · by_cases g5 : slot < perI wd k
              · by_cases g6 : 0 ≤ word
                · have g7 : ¬ word < sizI k := fun h => hy ⟨⟨hr, ⟨g2, g3⟩, g4, g5⟩, g6, h⟩
                  exact refof_7 b wd m r ce lg st k block slot word w hrr hkk (by simp; omega) (by simp; omega) (by simp; omega) (by simp; omega) (by simp; omega) (by simp; omega)
                · exact refof_6 b wd m r ce lg st k block slot word w hrr hkk (by simp; omega) (by simp; omega) (by simp; omega) (by simp; omega) (by simp; omega)
              · exact refof_5 b wd m r ce lg st k block slot word w hrr hkk (by simp; omega) (by simp; omega) (by simp; omega) (by simp; omega)
            · exact refof_4 b wd m r ce lg st k block slot word w hrr hkk (by simp; omega) (by simp; omega) (by simp; omega)
          · exact refof_3 b wd m r ce lg st k block slot word w hrr hkk (by simp; omega) (by simp; omega)
        · exact refof_2 b wd m r ce lg st k block slot word w hrr hkk (by simp; omega)
      · exact refof_1 b wd m r ce lg st k block slot word w hrr (by simpa using hkk)
    · exact refof_0 b wd m r ce lg st k block slot word w ((rightB_ref b wd m r ce lg st).symm.trans (by simpa using hr))
end Go.Proofs.YtkfgchhlekdpgaaGreatDoor.Addr
