/-
  ConfigRight, ConfigBounds, ConfigGrows: for every config (and every number of picks) the law answers true, and turns nothing that lay.
  Conditions: the variable dustpan/config.limits starts as the program's text lays it (the card ties it).
-/
import Derived.Test.YtahhenbphnejiaaDoorLaw
import Derived.Test.YtahhenbphnejiaaDoorConfigI
import Derived.Test.YtahhenbphnejiaaDoorCards
import Derived.Test.YtahhenbphnejiaaDoorTie
import Derived.Lib.SmallJoins
import Derived.Deep.Fields
import Derived.LaidMore
import Derived.Stop.Joined
namespace Go.Proofs.YtahhenbphnejiaaDoor
open Go.ChangeShapes Go.WideShapes Go.ChangeAt Go.RowKit Go.Joins Go.Deep

section
variable {H : Type} {enc : TypeId × Value → H} {w : World} {base : Nat} {spare : Nat → Bool} {held : Bool}
/-- A config that came in: seven numbers. -/
theorem open_cfg {r : Reach} {b0 : Nat} {v : Value} {d : DataW H} {p : List MemPlace} (hv : Value.okWide Tryd.prog w r b0 53 v) (h : DataW.Trod enc Tryd.prog w base spare held 53 v d p) :
    ∃ b wd m r ce lg st : Int, v = .agg #[.int .i64 b, .int .i64 wd, .int .i64 m, .int .i64 r, .int .i64 ce, .int .i64 lg, .int .i64 st] := by
  obtain ⟨cs, rfl, hsz⟩ := okWide_struct Tryd.underlying53 hv
  have hC : Tryd.prog.cellsOf 53 = 7 := by kernel_rfl
  have hc3 : Tryd.prog.cellsOf 3 = 1 := by kernel_rfl
  obtain ⟨l⟩ := cs
  obtain ⟨fuel, hf⟩ := h
  obtain ⟨xs, n, _, hx, _, hlen, hg⟩ := DataW.trod_struct Tryd.underlying53 hf
  match l, hsz.trans hC with
  | [c0, c1, c2, c3, c4, c5, c6], _ =>
    match xs, hlen with
    | [y0, y1, y2, y3, y4, y5, y6], _ =>
      obtain ⟨b, e0, _⟩ := DataW.trod_int Tryd.underlying3 (show DataW.trod enc _ _ _ _ _ _ 3 [c0] = some y0 by simpa [Value.cells, hc3] using hg 0 _ rfl)
      obtain ⟨wd, e1, _⟩ := DataW.trod_int Tryd.underlying3 (show DataW.trod enc _ _ _ _ _ _ 3 [c1] = some y1 by simpa [Value.cells, hc3] using hg 1 _ rfl)
      obtain ⟨m, e2, _⟩ := DataW.trod_int Tryd.underlying3 (show DataW.trod enc _ _ _ _ _ _ 3 [c2] = some y2 by simpa [Value.cells, hc3] using hg 2 _ rfl)
      obtain ⟨r, e3, _⟩ := DataW.trod_int Tryd.underlying3 (show DataW.trod enc _ _ _ _ _ _ 3 [c3] = some y3 by simpa [Value.cells, hc3] using hg 3 _ rfl)
      obtain ⟨ce, e4, _⟩ := DataW.trod_int Tryd.underlying3 (show DataW.trod enc _ _ _ _ _ _ 3 [c4] = some y4 by simpa [Value.cells, hc3] using hg 4 _ rfl)
      obtain ⟨lg, e5, _⟩ := DataW.trod_int Tryd.underlying3 (show DataW.trod enc _ _ _ _ _ _ 3 [c5] = some y5 by simpa [Value.cells, hc3] using hg 5 _ rfl)
      obtain ⟨st, e6, _⟩ := DataW.trod_int Tryd.underlying3 (show DataW.trod enc _ _ _ _ _ _ 3 [c6] = some y6 by simpa [Value.cells, hc3] using hg 6 _ rfl)
      simp only [List.cons.injEq, and_true] at e0 e1 e2 e3 e4 e5 e6
      subst e0 e1 e2 e3 e4 e5 e6
      exact ⟨b, wd, m, r, ce, lg, st, rfl⟩

/-- A pair of limits. -/
theorem open_limit {fuel : Nat} {cs : List Value} {a c : Int} {ps : List MemPlace} (h : DataW.trod enc Tryd.prog w base spare held fuel 80 cs = some (.agg [.lit (.int .i64 a), .lit (.int .i64 c)], ps)) : cs = [.int .i64 a, .int .i64 c] := by
  have hC : Tryd.prog.cellsOf 80 = 2 := by kernel_rfl
  have hc3 : Tryd.prog.cellsOf 3 = 1 := by kernel_rfl
  obtain ⟨y0, y1, n, hx, hl, h0, h1⟩ := trod_struct2 Tryd.underlying80 h
  match cs, hl.trans hC with
  | [c0, c1], _ =>
    obtain ⟨b, e0, f0, _⟩ := DataW.trod_int Tryd.underlying3 (show DataW.trod enc _ _ _ _ _ _ 3 [c0] = some y0 by simpa [hc3] using h0)
    obtain ⟨d, e1, f1, _⟩ := DataW.trod_int Tryd.underlying3 (show DataW.trod enc _ _ _ _ _ _ 3 [c1] = some y1 by simpa [hc3] using h1)
    subst f0 f1
    simp at hx e0 e1
    obtain ⟨⟨rfl, rfl⟩, _⟩ := hx
    rw [e0, e1]
end

theorem gLim : Tryd.prog.globalNamed "dustpan/config.limits" = some 0 := by kernel_rfl
theorem tLim : (Tryd.prog.globals[0]?).map (·.type) = some 81 := by kernel_rfl

theorem limTab_of_laid {W : World} (h : laidMetH Tryd.prog [("dustpan/config.limits", Rows.laid_dustpan_config_limits)] W) : LimTab W := by
  rw [MakeChecks.laidMetH_plain _ _ _ (by kernel_rfl)] at h
  obtain ⟨ps, ⟨g0, t0, cs0, f0, p0, q0, hg0, ht0, hv0, hd0, _, _⟩, _⟩ := h
  obtain rfl := Option.some.inj (gLim.symm.trans hg0)
  obtain rfl := Option.some.inj (tLim.symm.trans ht0)
  have hC : Tryd.prog.cellsOf 80 = 2 := by kernel_rfl
  obtain ⟨xs, m, _, hx, hlen, hn, hel⟩ := DataW.trod_array Tryd.underlying81 hd0
  have hC7 : Tryd.prog.cellsOf 81 = 14 := by kernel_rfl
  simp only [Prod.mk.injEq, Rows.laid_dustpan_config_limits, DataW.agg.injEq] at hx
  have hx1 := hx.1
  obtain ⟨l⟩ := cs0
  have hlen' : l.length = 14 := hlen.trans hC7
  match xs, hn, hx1, l, hlen', hel, hv0 with
  | [x0, x1, x2, x3, x4, x5, x6], _, hx1, [c0, c1, c2, c3, c4, c5, c6, c7, c8, c9, c10, c11, c12, c13], _, hel, hv0 =>
    simp only [List.map_cons, List.map_nil, List.cons.injEq] at hx1
    obtain ⟨f0', f1', f2', f3', f4', f5', f6', _⟩ := hx1
    have o0 := open_limit (a := 1) (c := 4096) (ps := x0.2) (show DataW.trod _ Tryd.prog W 0 _ false m 80 [c0, c1] = _ by
      have := hel 0 (by decide)
      rw [hC] at this
      refine (show DataW.trod _ Tryd.prog W 0 _ false m 80 [c0, c1] = some x0 from this).trans ?_
      rw [f0'])
    simp only [List.cons.injEq, and_true] at o0
    obtain ⟨rfl, rfl⟩ := o0
    have o1 := open_limit (a := 16) (c := 256) (ps := x1.2) (show DataW.trod _ Tryd.prog W 0 _ false m 80 [c2, c3] = _ by
      have := hel 1 (by decide)
      rw [hC] at this
      refine (show DataW.trod _ Tryd.prog W 0 _ false m 80 [c2, c3] = some x1 from this).trans ?_
      rw [f1'])
    simp only [List.cons.injEq, and_true] at o1
    obtain ⟨rfl, rfl⟩ := o1
    have o2 := open_limit (a := 1) (c := 8) (ps := x2.2) (show DataW.trod _ Tryd.prog W 0 _ false m 80 [c4, c5] = _ by
      have := hel 2 (by decide)
      rw [hC] at this
      refine (show DataW.trod _ Tryd.prog W 0 _ false m 80 [c4, c5] = some x2 from this).trans ?_
      rw [f2'])
    simp only [List.cons.injEq, and_true] at o2
    obtain ⟨rfl, rfl⟩ := o2
    have o3 := open_limit (a := 1) (c := 64) (ps := x3.2) (show DataW.trod _ Tryd.prog W 0 _ false m 80 [c6, c7] = _ by
      have := hel 3 (by decide)
      rw [hC] at this
      refine (show DataW.trod _ Tryd.prog W 0 _ false m 80 [c6, c7] = some x3 from this).trans ?_
      rw [f3'])
    simp only [List.cons.injEq, and_true] at o3
    obtain ⟨rfl, rfl⟩ := o3
    have o4 := open_limit (a := 0) (c := 64) (ps := x4.2) (show DataW.trod _ Tryd.prog W 0 _ false m 80 [c8, c9] = _ by
      have := hel 4 (by decide)
      rw [hC] at this
      refine (show DataW.trod _ Tryd.prog W 0 _ false m 80 [c8, c9] = some x4 from this).trans ?_
      rw [f4'])
    simp only [List.cons.injEq, and_true] at o4
    obtain ⟨rfl, rfl⟩ := o4
    have o5 := open_limit (a := 1) (c := 256) (ps := x5.2) (show DataW.trod _ Tryd.prog W 0 _ false m 80 [c10, c11] = _ by
      have := hel 5 (by decide)
      rw [hC] at this
      refine (show DataW.trod _ Tryd.prog W 0 _ false m 80 [c10, c11] = some x5 from this).trans ?_
      rw [f5'])
    simp only [List.cons.injEq, and_true] at o5
    obtain ⟨rfl, rfl⟩ := o5
    have o6 := open_limit (a := 1) (c := 4096) (ps := x6.2) (show DataW.trod _ Tryd.prog W 0 _ false m 80 [c12, c13] = _ by
      have := hel 6 (by decide)
      rw [hC] at this
      refine (show DataW.trod _ Tryd.prog W 0 _ false m 80 [c12, c13] = some x6 from this).trans ?_
      rw [f6'])
    simp only [List.cons.injEq, and_true] at o6
    obtain ⟨rfl, rfl⟩ := o6
    have hv : ∀ j v, (List.toArray [Value.int .i64 1, .int .i64 4096, .int .i64 16, .int .i64 256, .int .i64 1, .int .i64 8, .int .i64 1, .int .i64 64, .int .i64 0, .int .i64 64, .int .i64 1, .int .i64 256, .int .i64 1, .int .i64 4096])[j]? = some v → W.cell? ⟨0, j, none⟩ = some v := fun j v e => (World.var?_cell hg0 hv0 j).trans e
    exact ⟨hv 0 _ rfl, hv 1 _ rfl, hv 2 _ rfl, hv 3 _ rfl, hv 4 _ rfl, hv 5 _ rfl, hv 6 _ rfl, hv 7 _ rfl, hv 8 _ rfl, hv 9 _ rfl, hv 10 _ rfl, hv 11 _ rfl, hv 12 _ rfl, hv 13 _ rfl, World.block_lt_of_cell? W _ (hv 0 _ rfl)⟩

theorem door_met (os : Os) (args : Array Value) : laidMetH Tryd.prog [("dustpan/config.limits", Rows.laid_dustpan_config_limits)] ((World.doorLaid Tryd.prog 400 os).forCall (fun _ _ => 0) ⟨#[], args, []⟩).memory :=
  laidMetH_of_parts3 (fuel := 8) (laidMet_of_run' 8 (by kernel_rfl) (by kernel_rfl)) (by kernel_rfl) (by kernel_rfl)

theorem ConfigRight_reads (t : TypeId) (ht : t ∈ Tryd.f8.params.toList) : Tryd.prog.readableRec t = true ∧ t < Tryd.prog.types.size := by
  rw [Tryd.params8] at ht
  have hall : ([53].all fun u => Tryd.prog.readableRec u && decide (u < Tryd.prog.types.size)) = true := by kernel_rfl
  have h1 := List.all_eq_true.1 hall t (by simpa using ht)
  simpa using h1

set_option maxRecDepth 100000 in
theorem ConfigRight_lifted (os : Os) (started : os.Started) (H : Type) (enc : TypeId × Value → H) :
    ReturnsInHanded {} Tryd.checked os 8 .any (fun w args => (Rows.configRightSpec.pre enc Tryd.prog Tryd.f8 [] false w args ∧ laidMetH Tryd.prog [("dustpan/config.limits", Rows.laid_dustpan_config_limits)] w) ∧ sizedMet enc Tryd.prog Tryd.f8 (OpenSpec.ofChange Rows.configRightSpec) false w args)
      (Rows.configRightSpec.post enc Tryd.prog Tryd.f8 false true false false) := by
  refine returnsInHanded_of_change_and (C := Tryd.checked) (X := fun w _ => laidMetH Tryd.prog [("dustpan/config.limits", Rows.laid_dustpan_config_limits)] w) (fun _ _ _ hh h => h.of_heap hh) ownKn started (by kernel_rfl) Tryd.func8
    (ChangeSpec.witness_shaped (enc := enc) (C := Tryd.checked) (os := os) (X := fun w _ => laidMetH Tryd.prog [("dustpan/config.limits", Rows.laid_dustpan_config_limits)] w) false (World.doorLaid Tryd.prog 400 os) #[.agg #[.int .i64 0, .int .i64 0, .int .i64 0, .int .i64 0, .int .i64 0, .int .i64 0, .int .i64 0]] 8 rfl (World.shaped_of_RefB (by kernel_rfl) (by kernel_rfl)) (by kernel_rfl) (by kernel_rfl) (by kernel_rfl) (door_met os _)) ?_
  intro W base args ds gs before hval0 hW _ _ hL _
  have hval : ∀ (j : Nat) t v, Tryd.f8.params[j]? = some t → args[j]? = some v → Value.okWide Tryd.prog W .any base t v := hval0
  have hW' := hW
  obtain ⟨p, q, hA0, hV, rfl, hfz, hnd⟩ := hW
  have hA : DataW.TrodAll enc Tryd.prog W 0 (fun _ => true) true Tryd.f8.params.toList args.toList ds p := hA0
  rw [Tryd.params8] at hA hval
  obtain ⟨v0, vs0, d0, ds0, p0, q0, hargs, rfl, rfl, h0, r0⟩ := trodAll_cons hA
  obtain ⟨rfl, rfl, rfl⟩ := trodAll_nil r0
  obtain rfl : args = #[v0] := by cases args; simp_all
  obtain ⟨rfl, rfl⟩ := trodVars_none hV
  have ht := limTab_of_laid hL
  obtain ⟨b, wd, m, r, ce, lg, st, rfl⟩ := open_cfg (hval 0 53 v0 rfl rfl) h0
  have fin : ∀ W', Below W.heap.size W W' → Rows.configRightSpec.post enc Tryd.prog Tryd.f8 false true false false W _ (.bool true) W' := fun W' hb =>
    law_post laidO hW' rfl (by rfl) Tryd.underlying4 rfl ConfigRight_reads hb
  by_cases hR : RightC b wd m r ce lg st
  · refine (configRight_yes b wd m r ce lg st W ht hR (rightC_right hR) (refRightB_true.2 hR)).mono fun e W' ⟨he, hb⟩ => ?_
    subst he
    exact ⟨_, rfl, fin W' hb⟩
  · have hrr : refRightB b wd m r ce lg st = false := Bool.eq_false_iff.2 (fun h => hR (refRightB_true.1 h))
    refine (configRight_no b wd m r ce lg st W ht (by rw [rightB_ref]; exact hrr) hrr).mono fun e W' ⟨he, hb⟩ => ?_
    subst he
    exact ⟨_, rfl, fin W' hb⟩

theorem ConfigRight_holds : Rows.ConfigRightSaid :=
  OpenClaim.holds_of_wide 8 Tryd.f8 rfl rfl rfl rfl rfl rfl rfl ⟨rfl, rfl, rfl, rfl, rfl⟩ rfl rfl rfl rfl rfl (by kernel_rfl) Tryd.func8 (by kernel_rfl)
    (of_decide_eq_true (by kernel_rfl)) (by unfold Func.isWrapper; first | (rw [if_pos (by decide +kernel)]; kernel_rfl) | (rw [if_neg (by decide +kernel)]; exact ⟨rfl, rfl⟩))
    (fun os started H enc _ => ConfigRight_lifted os started H enc)

theorem ConfigRight_plain (f : FuncId) (fn : Func) (hf : Tryd.pinned.checked.prog.funcNamed "dustpan/dustpanlaw02.ConfigRight" = some f) (hfn : Tryd.pinned.checked.prog.funcs[f]? = some fn) :
    false = Tryd.pinned.checked.prog.looks [] ∧ ∀ (j : Nat) t, fn.params[j]? = some t → Tryd.pinned.checked.prog.wantsStandIn t = false := by
  obtain rfl : f = 8 := Option.some.inj ((show Tryd.prog.funcNamed "dustpan/dustpanlaw02.ConfigRight" = some 8 by kernel_rfl).symm.trans hf) |>.symm
  obtain rfl : fn = Tryd.f8 := (Option.some.inj (Tryd.func8.symm.trans hfn)).symm
  refine ⟨by kernel_rfl, fun j t ht => ?_⟩
  rw [Tryd.params8] at ht
  have hm : t ∈ [53] := by simpa using Array.mem_of_getElem? ht
  have hall : ([53].all fun u => !Tryd.prog.wantsStandIn u) = true := by kernel_rfl
  exact (show Tryd.prog.wantsStandIn t = false by simpa using List.all_eq_true.1 hall t hm)

theorem ConfigRight_card : Rows.ConfigRightCardSaid :=
  Claim7.holds_tied_plain_at .later [] _ _ _ _ ConfigRight_holds (fun _ h => by cases h) (by kernel_rfl) (fun _ h => by cases h) configRight_row_tie rfl ⟨rfl, rfl⟩ (by kernel_rfl) rfl ConfigRight_plain (by kernel_rfl)

theorem ConfigBounds_reads (t : TypeId) (ht : t ∈ Tryd.f9.params.toList) : Tryd.prog.readableRec t = true ∧ t < Tryd.prog.types.size := by
  rw [Tryd.params9] at ht
  have hall : ([53, 3].all fun u => Tryd.prog.readableRec u && decide (u < Tryd.prog.types.size)) = true := by kernel_rfl
  have h1 := List.all_eq_true.1 hall t (by simpa using ht)
  simpa using h1

set_option maxRecDepth 100000 in
theorem ConfigBounds_lifted (os : Os) (started : os.Started) (H : Type) (enc : TypeId × Value → H) :
    ReturnsInHanded {} Tryd.checked os 9 .any (fun w args => (Rows.configBoundsSpec.pre enc Tryd.prog Tryd.f9 [] false w args ∧ laidMetH Tryd.prog [("dustpan/config.limits", Rows.laid_dustpan_config_limits)] w) ∧ sizedMet enc Tryd.prog Tryd.f9 (OpenSpec.ofChange Rows.configBoundsSpec) false w args)
      (Rows.configBoundsSpec.post enc Tryd.prog Tryd.f9 false true false false) := by
  refine returnsInHanded_of_change_and (C := Tryd.checked) (X := fun w _ => laidMetH Tryd.prog [("dustpan/config.limits", Rows.laid_dustpan_config_limits)] w) (fun _ _ _ hh h => h.of_heap hh) ownKn started (by kernel_rfl) Tryd.func9
    (ChangeSpec.witness_shaped (enc := enc) (C := Tryd.checked) (os := os) (X := fun w _ => laidMetH Tryd.prog [("dustpan/config.limits", Rows.laid_dustpan_config_limits)] w) false (World.doorLaid Tryd.prog 400 os) #[.agg #[.int .i64 0, .int .i64 0, .int .i64 0, .int .i64 0, .int .i64 0, .int .i64 0, .int .i64 0], .int .i64 0] 8 rfl (World.shaped_of_RefB (by kernel_rfl) (by kernel_rfl)) (by kernel_rfl) (by kernel_rfl) (by kernel_rfl) (door_met os _)) ?_
  intro W base args ds gs before hval0 hW _ _ hL _
  have hval : ∀ (j : Nat) t v, Tryd.f9.params[j]? = some t → args[j]? = some v → Value.okWide Tryd.prog W .any base t v := hval0
  have hW' := hW
  obtain ⟨p, q, hA0, hV, rfl, hfz, hnd⟩ := hW
  have hA : DataW.TrodAll enc Tryd.prog W 0 (fun _ => true) true Tryd.f9.params.toList args.toList ds p := hA0
  rw [Tryd.params9] at hA hval
  obtain ⟨v0, vs0, d0, ds0, p0, q0, hargs, rfl, rfl, h0, r0⟩ := trodAll_cons hA
  obtain ⟨v1, vs1, d1, ds1, p1, q1, rfl, rfl, rfl, h1, r1⟩ := trodAll_cons r0
  obtain ⟨rfl, rfl, rfl⟩ := trodAll_nil r1
  obtain rfl : args = #[v0, v1] := by cases args; simp_all
  obtain ⟨rfl, rfl⟩ := trodVars_none hV
  have ht := limTab_of_laid hL
  obtain ⟨b, wd, m, r, ce, lg, st, rfl⟩ := open_cfg (hval 0 53 v0 rfl rfl) h0
  obtain ⟨k, rfl, _⟩ := open_int Tryd.underlying3 (hval 1 3 v1 rfl rfl) h1
  have fin : ∀ W', Below W.heap.size W W' → Rows.configBoundsSpec.post enc Tryd.prog Tryd.f9 false true false false W _ (.bool true) W' := fun W' hb =>
    law_post laidO hW' rfl (by rfl) Tryd.underlying4 rfl ConfigBounds_reads hb
  by_cases hR : RightC b wd m r ce lg st
  · by_cases hk : k < 1
    · refine (configBounds_k0 b wd m r ce lg st k W ht hR (rightC_right hR) (refRightB_true.2 hR) hk).mono fun e W' ⟨he, hb⟩ => ?_
      subst he
      exact ⟨_, rfl, fin W' hb⟩
    · refine (configBounds_yes b wd m r ce lg st k W ht hR (rightC_right hR) (refRightB_true.2 hR) (Int.not_lt.1 hk)).mono fun e W' ⟨he, hb⟩ => ?_
      subst he
      exact ⟨_, rfl, fin W' hb⟩
  · have hrr : refRightB b wd m r ce lg st = false := Bool.eq_false_iff.2 (fun h => hR (refRightB_true.1 h))
    refine (configBounds_no b wd m r ce lg st k W ht (by rw [rightB_ref]; exact hrr) hrr).mono fun e W' ⟨he, hb⟩ => ?_
    subst he
    exact ⟨_, rfl, fin W' hb⟩

theorem ConfigBounds_holds : Rows.ConfigBoundsSaid :=
  OpenClaim.holds_of_wide 9 Tryd.f9 rfl rfl rfl rfl rfl rfl rfl ⟨rfl, rfl, rfl, rfl, rfl⟩ rfl rfl rfl rfl rfl (by kernel_rfl) Tryd.func9 (by kernel_rfl)
    (of_decide_eq_true (by kernel_rfl)) (by unfold Func.isWrapper; first | (rw [if_pos (by decide +kernel)]; kernel_rfl) | (rw [if_neg (by decide +kernel)]; exact ⟨rfl, rfl⟩))
    (fun os started H enc _ => ConfigBounds_lifted os started H enc)

theorem ConfigBounds_plain (f : FuncId) (fn : Func) (hf : Tryd.pinned.checked.prog.funcNamed "dustpan/dustpanlaw02.ConfigBounds" = some f) (hfn : Tryd.pinned.checked.prog.funcs[f]? = some fn) :
    false = Tryd.pinned.checked.prog.looks [] ∧ ∀ (j : Nat) t, fn.params[j]? = some t → Tryd.pinned.checked.prog.wantsStandIn t = false := by
  obtain rfl : f = 9 := Option.some.inj ((show Tryd.prog.funcNamed "dustpan/dustpanlaw02.ConfigBounds" = some 9 by kernel_rfl).symm.trans hf) |>.symm
  obtain rfl : fn = Tryd.f9 := (Option.some.inj (Tryd.func9.symm.trans hfn)).symm
  refine ⟨by kernel_rfl, fun j t ht => ?_⟩
  rw [Tryd.params9] at ht
  have hm : t ∈ [53, 3] := by simpa using Array.mem_of_getElem? ht
  have hall : ([53, 3].all fun u => !Tryd.prog.wantsStandIn u) = true := by kernel_rfl
  exact (show Tryd.prog.wantsStandIn t = false by simpa using List.all_eq_true.1 hall t hm)

theorem ConfigBounds_card : Rows.ConfigBoundsCardSaid :=
  Claim7.holds_tied_plain_at .later [] _ _ _ _ ConfigBounds_holds (fun _ h => by cases h) (by kernel_rfl) (fun _ h => by cases h) configBounds_row_tie rfl ⟨rfl, rfl⟩ (by kernel_rfl) rfl ConfigBounds_plain (by kernel_rfl)

theorem ConfigGrows_reads (t : TypeId) (ht : t ∈ Tryd.f10.params.toList) : Tryd.prog.readableRec t = true ∧ t < Tryd.prog.types.size := by
  rw [Tryd.params10] at ht
  have hall : ([53, 53, 3].all fun u => Tryd.prog.readableRec u && decide (u < Tryd.prog.types.size)) = true := by kernel_rfl
  have h1 := List.all_eq_true.1 hall t (by simpa using ht)
  simpa using h1

set_option maxRecDepth 100000 in
theorem ConfigGrows_lifted (os : Os) (started : os.Started) (H : Type) (enc : TypeId × Value → H) :
    ReturnsInHanded {} Tryd.checked os 10 .any (fun w args => (Rows.configGrowsSpec.pre enc Tryd.prog Tryd.f10 [] false w args ∧ laidMetH Tryd.prog [("dustpan/config.limits", Rows.laid_dustpan_config_limits)] w) ∧ sizedMet enc Tryd.prog Tryd.f10 (OpenSpec.ofChange Rows.configGrowsSpec) false w args)
      (Rows.configGrowsSpec.post enc Tryd.prog Tryd.f10 false true false false) := by
  refine returnsInHanded_of_change_and (C := Tryd.checked) (X := fun w _ => laidMetH Tryd.prog [("dustpan/config.limits", Rows.laid_dustpan_config_limits)] w) (fun _ _ _ hh h => h.of_heap hh) ownKn started (by kernel_rfl) Tryd.func10
    (ChangeSpec.witness_shaped (enc := enc) (C := Tryd.checked) (os := os) (X := fun w _ => laidMetH Tryd.prog [("dustpan/config.limits", Rows.laid_dustpan_config_limits)] w) false (World.doorLaid Tryd.prog 400 os) #[.agg #[.int .i64 0, .int .i64 0, .int .i64 0, .int .i64 0, .int .i64 0, .int .i64 0, .int .i64 0], .agg #[.int .i64 0, .int .i64 0, .int .i64 0, .int .i64 0, .int .i64 0, .int .i64 0, .int .i64 0], .int .i64 0] 8 rfl (World.shaped_of_RefB (by kernel_rfl) (by kernel_rfl)) (by kernel_rfl) (by kernel_rfl) (by kernel_rfl) (door_met os _)) ?_
  intro W base args ds gs before hval0 hW _ _ hL _
  have hval : ∀ (j : Nat) t v, Tryd.f10.params[j]? = some t → args[j]? = some v → Value.okWide Tryd.prog W .any base t v := hval0
  have hW' := hW
  obtain ⟨p, q, hA0, hV, rfl, hfz, hnd⟩ := hW
  have hA : DataW.TrodAll enc Tryd.prog W 0 (fun _ => true) true Tryd.f10.params.toList args.toList ds p := hA0
  rw [Tryd.params10] at hA hval
  obtain ⟨v0, vs0, d0, ds0, p0, q0, hargs, rfl, rfl, h0, r0⟩ := trodAll_cons hA
  obtain ⟨v1, vs1, d1, ds1, p1, q1, rfl, rfl, rfl, h1, r1⟩ := trodAll_cons r0
  obtain ⟨v2, vs2, d2, ds2, p2, q2, rfl, rfl, rfl, h2, r2⟩ := trodAll_cons r1
  obtain ⟨rfl, rfl, rfl⟩ := trodAll_nil r2
  obtain rfl : args = #[v0, v1, v2] := by cases args; simp_all
  obtain ⟨rfl, rfl⟩ := trodVars_none hV
  have ht := limTab_of_laid hL
  obtain ⟨b, wd, m, r, ce, lg, st, rfl⟩ := open_cfg (hval 0 53 v0 rfl rfl) h0
  obtain ⟨b', wd', m', r', ce', lg', st', rfl⟩ := open_cfg (hval 1 53 v1 rfl rfl) h1
  obtain ⟨k, rfl, _⟩ := open_int Tryd.underlying3 (hval 2 3 v2 rfl rfl) h2
  have fin : ∀ W', Below W.heap.size W W' → Rows.configGrowsSpec.post enc Tryd.prog Tryd.f10 false true false false W _ (.bool true) W' := fun W' hb =>
    law_post laidO hW' rfl (by rfl) Tryd.underlying4 rfl ConfigGrows_reads hb
  refine (configGrows_any b wd m r ce lg st b' wd' m' r' ce' lg' st' k W ht).mono fun e W' ⟨he, hb⟩ => ?_
  subst he
  exact ⟨_, rfl, fin W' hb⟩

theorem ConfigGrows_holds : Rows.ConfigGrowsSaid :=
  OpenClaim.holds_of_wide 10 Tryd.f10 rfl rfl rfl rfl rfl rfl rfl ⟨rfl, rfl, rfl, rfl, rfl⟩ rfl rfl rfl rfl rfl (by kernel_rfl) Tryd.func10 (by kernel_rfl)
    (of_decide_eq_true (by kernel_rfl)) (by unfold Func.isWrapper; first | (rw [if_pos (by decide +kernel)]; kernel_rfl) | (rw [if_neg (by decide +kernel)]; exact ⟨rfl, rfl⟩))
    (fun os started H enc _ => ConfigGrows_lifted os started H enc)

theorem ConfigGrows_plain (f : FuncId) (fn : Func) (hf : Tryd.pinned.checked.prog.funcNamed "dustpan/dustpanlaw02.ConfigGrows" = some f) (hfn : Tryd.pinned.checked.prog.funcs[f]? = some fn) :
    false = Tryd.pinned.checked.prog.looks [] ∧ ∀ (j : Nat) t, fn.params[j]? = some t → Tryd.pinned.checked.prog.wantsStandIn t = false := by
  obtain rfl : f = 10 := Option.some.inj ((show Tryd.prog.funcNamed "dustpan/dustpanlaw02.ConfigGrows" = some 10 by kernel_rfl).symm.trans hf) |>.symm
  obtain rfl : fn = Tryd.f10 := (Option.some.inj (Tryd.func10.symm.trans hfn)).symm
  refine ⟨by kernel_rfl, fun j t ht => ?_⟩
  rw [Tryd.params10] at ht
  have hm : t ∈ [53, 53, 3] := by simpa using Array.mem_of_getElem? ht
  have hall : ([53, 53, 3].all fun u => !Tryd.prog.wantsStandIn u) = true := by kernel_rfl
  exact (show Tryd.prog.wantsStandIn t = false by simpa using List.all_eq_true.1 hall t hm)

theorem ConfigGrows_card : Rows.ConfigGrowsCardSaid :=
  Claim7.holds_tied_plain_at .later [] _ _ _ _ ConfigGrows_holds (fun _ h => by cases h) (by kernel_rfl) (fun _ h => by cases h) configGrows_row_tie rfl ⟨rfl, rfl⟩ (by kernel_rfl) rfl ConfigGrows_plain (by kernel_rfl)

end Go.Proofs.YtahhenbphnejiaaDoor
