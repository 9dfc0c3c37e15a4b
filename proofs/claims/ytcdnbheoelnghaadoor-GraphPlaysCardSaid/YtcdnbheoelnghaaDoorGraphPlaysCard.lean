/-
  GraphPlays: for every config and row of deeds the law answers true, and turns nothing that lay.
  Conditions: the listed variables (limits, forms) start as the program's text lays them (the card ties them).
-/
import Derived.Test.YtcdnbheoelnghaaDoorOpLaid
import Derived.Test.YtcdnbheoelnghaaDoorGrZ1
import Derived.Test.YtcdnbheoelnghaaDoorGrOpen
namespace Go.Proofs.YtcdnbheoelnghaaDoor.Gra
open Go.ChangeShapes Go.WideShapes Go.ChangeAt Go.RowKit Go.Proofs.YtcdnbheoelnghaaDoor.Opr

theorem GraphPlays_reads (t : TypeId) (ht : t ∈ Tryd.f3.params.toList) : Tryd.prog.readableRec t = true ∧ t < Tryd.prog.types.size := by
  rw [Tryd.params3] at ht
  have hall : ([23, 24].all fun u => Tryd.prog.readableRec u && decide (u < Tryd.prog.types.size)) = true := by kernel_rfl
  have h1 := List.all_eq_true.1 hall t (by simpa using ht)
  simpa using h1

set_option maxRecDepth 100000 in
theorem GraphPlays_lifted (os : Os) (started : os.Started) (H : Type) (enc : TypeId × Value → H) :
    ReturnsInHanded {} Tryd.checked os 3 .any (fun w args => (Rows.graphPlaysSpec.pre enc Tryd.prog Tryd.f3 [] false w args ∧ laidMetH Tryd.prog [("dustpan/config.limits", Rows.laid_dustpan_config_limits), ("dustpan/op.forms", Rows.laid_dustpan_op_forms)] w) ∧ sizedMet enc Tryd.prog Tryd.f3 (OpenSpec.ofChange Rows.graphPlaysSpec) false w args)
      (Rows.graphPlaysSpec.post enc Tryd.prog Tryd.f3 false true false false) := by
  refine returnsInHanded_of_change_and (C := Tryd.checked) (X := fun w _ => laidMetH Tryd.prog [("dustpan/config.limits", Rows.laid_dustpan_config_limits), ("dustpan/op.forms", Rows.laid_dustpan_op_forms)] w) (fun _ _ _ hh h => h.of_heap hh) ownKn started (by kernel_rfl) Tryd.func3
    (ChangeSpec.witness_shaped (enc := enc) (C := Tryd.checked) (os := os) (X := fun w _ => laidMetH Tryd.prog [("dustpan/config.limits", Rows.laid_dustpan_config_limits), ("dustpan/op.forms", Rows.laid_dustpan_op_forms)] w) false (World.doorLaid Tryd.prog 400 os) #[(.agg #[.int .i64 0, .int .i64 0, .int .i64 0, .int .i64 0, .int .i64 0, .int .i64 0, .int .i64 0]), .slice none 0 0] 8 rfl (World.shaped_of_RefB (by kernel_rfl) (by kernel_rfl)) (by kernel_rfl) (by kernel_rfl) (by kernel_rfl) (door_limits_forms os _)) ?_
  intro W base args ds gs before hval0 hW _ _ hL _
  have hval : ∀ (j : Nat) t v, Tryd.f3.params[j]? = some t → args[j]? = some v → Value.okWide Tryd.prog W .any base t v := hval0
  have hW' := hW
  obtain ⟨p, q, hA0, hV, rfl, hfz, hnd⟩ := hW
  have hA : DataW.TrodAll enc Tryd.prog W 0 (fun _ => true) true Tryd.f3.params.toList args.toList ds p := hA0
  rw [Tryd.params3] at hA hval
  obtain ⟨v0, vs0, d0, ds0, p0, q0, hargs, rfl, rfl, h0, r0⟩ := trodAll_cons hA
  obtain ⟨v1, vs1, d1, ds1, p1, q1, rfl, rfl, rfl, h1, r1⟩ := trodAll_cons r0
  obtain ⟨rfl, rfl, rfl⟩ := trodAll_nil r1
  obtain rfl : args = #[v0, v1] := by cases args; simp_all
  obtain ⟨rfl, rfl⟩ := trodVars_none hV
  rw [MakeChecks.laidMetH_plain _ _ _ (by kernel_rfl)] at hL
  have t_limits := limTab_of hL
  have t_forms := formTab_of hL.tail
  obtain ⟨b, wd, m, r, ce, lg, st, rfl, hir, hic⟩ := open_cfgI (hval 0 23 v0 rfl rfl) h0
  obtain ⟨pd, ld, cd, rfl, hld, hlld⟩ := open_deeds (hval 1 24 v1 rfl rfl) h1
  have fin : ∀ W', Below W.heap.size W W' → Rows.graphPlaysSpec.post enc Tryd.prog Tryd.f3 false true false false W _ (.bool true) W' := fun W' hb =>
    law_post laidO hW' rfl (by rfl) Tryd.underlying4 rfl GraphPlays_reads hb
  refine (plays_walk ⟨b, wd, m, r, ce, lg, st⟩ pd cd ld W t_forms t_limits hld hlld).mono fun e W' ⟨he, hb⟩ => ?_
  subst he
  exact ⟨_, rfl, fin W' hb⟩

theorem GraphPlays_holds : Rows.GraphPlaysSaid :=
  OpenClaim.holds_of_wide 3 Tryd.f3 rfl rfl rfl rfl rfl rfl rfl ⟨rfl, rfl, rfl, rfl, rfl⟩ rfl rfl rfl rfl rfl (by kernel_rfl) Tryd.func3 (by kernel_rfl)
    (of_decide_eq_true (by kernel_rfl)) (by unfold Func.isWrapper; first | (rw [if_pos (by decide +kernel)]; kernel_rfl) | (rw [if_neg (by decide +kernel)]; exact ⟨rfl, rfl⟩))
    (fun os started H enc _ => GraphPlays_lifted os started H enc)

theorem GraphPlays_plain (f : FuncId) (fn : Func) (hf : Tryd.pinned.checked.prog.funcNamed "dustpan/dustpanlaw18.GraphPlays" = some f) (hfn : Tryd.pinned.checked.prog.funcs[f]? = some fn) :
    false = Tryd.pinned.checked.prog.looks [] ∧ ∀ (j : Nat) t, fn.params[j]? = some t → Tryd.pinned.checked.prog.wantsStandIn t = false := by
  obtain rfl : f = 3 := Option.some.inj ((show Tryd.prog.funcNamed "dustpan/dustpanlaw18.GraphPlays" = some 3 by kernel_rfl).symm.trans hf) |>.symm
  obtain rfl : fn = Tryd.f3 := (Option.some.inj (Tryd.func3.symm.trans hfn)).symm
  refine ⟨by kernel_rfl, fun j t ht => ?_⟩
  rw [Tryd.params3] at ht
  have hm : t ∈ [23, 24] := by simpa using Array.mem_of_getElem? ht
  have hall : ([23, 24].all fun u => !Tryd.prog.wantsStandIn u) = true := by kernel_rfl
  exact (show Tryd.prog.wantsStandIn t = false by simpa using List.all_eq_true.1 hall t hm)

theorem GraphPlays_card : Rows.GraphPlaysCardSaid :=
  Claim7.holds_tied_plain_at .later [] _ _ _ _ GraphPlays_holds (fun _ h => by cases h) (by kernel_rfl) (fun _ h => by cases h) graphPlays_row_tie rfl ⟨rfl, rfl⟩ (by kernel_rfl) rfl GraphPlays_plain (by kernel_rfl)
end Go.Proofs.YtcdnbheoelnghaaDoor.Gra
