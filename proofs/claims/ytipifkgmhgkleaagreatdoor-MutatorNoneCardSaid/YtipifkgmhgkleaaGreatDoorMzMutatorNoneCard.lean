/-
  MutatorNone: for every config and two numbers the law answers true, and turns nothing that lay.
  Conditions: the listed variables (limits, sizes, forms) start as the program's text lays them (the card ties them).
-/
import Derived.Test.YtipifkgmhgkleaaGreatDoorMzLai
import Derived.Test.YtipifkgmhgkleaaGreatDoorMzOpLd
import Derived.Test.YtipifkgmhgkleaaGreatDoorMzMvp
namespace Go.Proofs.YtipifkgmhgkleaaGreatDoor
open Go.ChangeShapes Go.WideShapes Go.ChangeAt Go.RowKit
open Go.Proofs.YtipifkgmhgkleaaGreatDoor.Opr (formTab_of handed_and_shaped)

theorem MutatorNone_reads (t : TypeId) (ht : t ∈ Tryz.f3.params.toList) : Tryz.prog.readableRec t = true ∧ t < Tryz.prog.types.size := by
  rw [Tryz.params3] at ht
  have hall : ([23, 3, 5].all fun u => Tryz.prog.readableRec u && decide (u < Tryz.prog.types.size)) = true := by kernel_rfl
  have h1 := List.all_eq_true.1 hall t (by simpa using ht)
  simpa using h1

set_option maxRecDepth 100000 in
theorem MutatorNone_lifted (os : Os) (started : os.Started) (H : Type) (enc : TypeId × Value → H) :
    ReturnsInHanded {} Tryz.checked os 3 .any (fun w args => (Rows.mutatorNoneSpec.pre enc Tryz.prog Tryz.f3 [] false w args ∧ laidMetH Tryz.prog [("dustpan/config.limits", Rows.laid_dustpan_config_limits), ("dustpan/class.sizes", Rows.laid_dustpan_class_sizes), ("dustpan/op.forms", Rows.laid_dustpan_op_forms)] w) ∧ sizedMet enc Tryz.prog Tryz.f3 (OpenSpec.ofChange Rows.mutatorNoneSpec) false w args)
      (Rows.mutatorNoneSpec.post enc Tryz.prog Tryz.f3 false true false false) := by
  refine handed_and_shaped (C := Tryz.checked) (X := fun w _ => laidMetH Tryz.prog [("dustpan/config.limits", Rows.laid_dustpan_config_limits), ("dustpan/class.sizes", Rows.laid_dustpan_class_sizes), ("dustpan/op.forms", Rows.laid_dustpan_op_forms)] w) (fun _ _ _ hh h => h.of_heap hh) ownKn started (by kernel_rfl) Tryz.func3
    (ChangeSpec.witness_shaped (enc := enc) (C := Tryz.checked) (os := os) (X := fun w _ => laidMetH Tryz.prog [("dustpan/config.limits", Rows.laid_dustpan_config_limits), ("dustpan/class.sizes", Rows.laid_dustpan_class_sizes), ("dustpan/op.forms", Rows.laid_dustpan_op_forms)] w) false (World.laidAll Tryz.prog os [("dustpan/config.limits", Rows.laid_dustpan_config_limits), ("dustpan/class.sizes", Rows.laid_dustpan_class_sizes), ("dustpan/op.forms", Rows.laid_dustpan_op_forms)]) #[(.agg #[.int .i64 0, .int .i64 0, .int .i64 0, .int .i64 0, .int .i64 0, .int .i64 0, .int .i64 0]), .int .i64 0, .int .u8 0] 8 (World.laidAll_os _ _ _) (World.shaped_of_ZipB (by kernel_rfl) (by kernel_rfl)) (by kernel_rfl) (by kernel_rfl) (by kernel_rfl)
      (by rw [MakeChecks.laidMetH_plain _ _ _ (by kernel_rfl)]; exact laidMet_laidAll _ (by kernel_rfl) (by kernel_rfl))) ?_
  intro W base args ds gs before hval0 hW _ _ hL _ _
  have hval : ∀ (j : Nat) t v, Tryz.f3.params[j]? = some t → args[j]? = some v → Value.okWide Tryz.prog W .any base t v := hval0
  have hW' := hW
  obtain ⟨p, q, hA0, hV, rfl, hfz, hnd⟩ := hW
  have hA : DataW.TrodAll enc Tryz.prog W 0 (fun _ => true) true Tryz.f3.params.toList args.toList ds p := hA0
  rw [Tryz.params3] at hA hval
  obtain ⟨v0, vs0, d0, ds0, p0, q0, hargs, rfl, rfl, h0, r0⟩ := trodAll_cons hA
  obtain ⟨v1, vs1, d1, ds1, p1, q1, rfl, rfl, rfl, h1, r1⟩ := trodAll_cons r0
  obtain ⟨v2, vs2, d2, ds2, p2, q2, rfl, rfl, rfl, h2, r2⟩ := trodAll_cons r1
  obtain ⟨rfl, rfl, rfl⟩ := trodAll_nil r2
  obtain rfl : args = #[v0, v1, v2] := by cases args; simp_all
  obtain ⟨rfl, rfl⟩ := trodVars_none hV
  rw [MakeChecks.laidMetH_plain _ _ _ (by kernel_rfl)] at hL
  have t_limits := limTab_of hL
  have t_sizes := sizTab_of hL.tail
  have t_forms := formTab_of (hL.tail).tail
  obtain ⟨b, wd, m, r, ce, lg, st, rfl⟩ := open_cfg (hval 0 23 v0 rfl rfl) h0
  obtain ⟨k, rfl, _⟩ := open_int Tryz.underlying3 (hval 1 3 v1 rfl rfl) h1
  obtain ⟨z2, rfl, _, _, wf2⟩ := open_int Tryz.underlying5 (hval 2 5 v2 rfl rfl) h2
  have bd2 := bounds_u8 wf2
  obtain ⟨g, rfl⟩ := Int.eq_ofNat_of_zero_le bd2.1
  have fin : ∀ W', Below W.heap.size W W' → Rows.mutatorNoneSpec.post enc Tryz.prog Tryz.f3 false true false false W _ (.bool true) W' := fun W' hb =>
    law_post laidO hW' rfl (by rfl) Tryz.underlying4 rfl MutatorNone_reads hb
  refine (Mv.none_walk ⟨b, wd, m, r, ce, lg, st⟩ k g W ⟨t_limits, t_sizes⟩ t_forms (by omega) (by omega)).mono fun e W' ⟨he, hb⟩ => ?_
  subst he
  exact ⟨_, rfl, fin W' hb⟩

theorem MutatorNone_k_inPlace : (Rows.mutatorNoneRow.inPlace == Tryz.pinned.checked.prog.inPlace 3) = true := by kernel_rfl
theorem MutatorNone_k_unfollowed : (Rows.mutatorNoneRow.unfollowed == Tryz.pinned.checked.prog.unfollowed 3) = true := by kernel_rfl
theorem MutatorNone_k_recurses : (Rows.mutatorNoneRow.recurses == Tryz.pinned.checked.prog.recurses 3) = true := by kernel_rfl
theorem MutatorNone_k_named : (Rows.mutatorNoneRow.named == Tryz.pinned.checked.prog.varsNamed 3) = true := by kernel_rfl
theorem MutatorNone_k_tie : namedTie Tryz.pinned.checked.prog Rows.mutatorNoneRow.named Rows.mutatorNoneSpec.vars = true := by kernel_rfl
theorem MutatorNone_k_out : laidOutB Tryz.pinned.checked.prog = true := by kernel_rfl
theorem MutatorNone_k_maps : mapsRowed Tryz.pinned.checked.prog = true := by kernel_rfl
theorem MutatorNone_facts : joinedFacts Tryz.pinned.checked.prog 3 Tryz.f3 Rows.mutatorNoneSpec Rows.mutatorNoneRow = true := by
  unfold joinedFacts
  rw [MutatorNone_k_inPlace, MutatorNone_k_unfollowed, MutatorNone_k_recurses, MutatorNone_k_named, MutatorNone_k_tie, MutatorNone_k_out, MutatorNone_k_maps]
  kernel_rfl
theorem MutatorNone_holds : Rows.MutatorNoneSaid :=
  OpenClaim.holds_of_wide 3 Tryz.f3 rfl rfl rfl rfl rfl rfl rfl ⟨rfl, rfl, rfl, rfl, rfl⟩ rfl rfl rfl rfl rfl (by kernel_rfl) Tryz.func3 MutatorNone_facts
    (of_decide_eq_true (by kernel_rfl)) (by unfold Func.isWrapper; first | (rw [if_pos (by decide +kernel)]; kernel_rfl) | (rw [if_neg (by decide +kernel)]; exact ⟨rfl, rfl⟩))
    (fun os started H enc _ => MutatorNone_lifted os started H enc)

theorem MutatorNone_plain (f : FuncId) (fn : Func) (hf : Tryz.pinned.checked.prog.funcNamed "dustpan/dustpanlaw20.MutatorNone" = some f) (hfn : Tryz.pinned.checked.prog.funcs[f]? = some fn) :
    true = Tryz.pinned.checked.prog.looks [] ∧ ∀ (j : Nat) t, fn.params[j]? = some t → Tryz.pinned.checked.prog.wantsStandIn t = false := by
  obtain rfl : f = 3 := Option.some.inj ((show Tryz.prog.funcNamed "dustpan/dustpanlaw20.MutatorNone" = some 3 by kernel_rfl).symm.trans hf) |>.symm
  obtain rfl : fn = Tryz.f3 := (Option.some.inj (Tryz.func3.symm.trans hfn)).symm
  refine ⟨by kernel_rfl, fun j t ht => ?_⟩
  rw [Tryz.params3] at ht
  have hm : t ∈ [23, 3, 5] := by simpa using Array.mem_of_getElem? ht
  have hall : ([23, 3, 5].all fun u => !Tryz.prog.wantsStandIn u) = true := by kernel_rfl
  exact (show Tryz.prog.wantsStandIn t = false by simpa using List.all_eq_true.1 hall t hm)

theorem MutatorNone_card : Rows.MutatorNoneCardSaid :=
  Claim7.holds_tied_plain_at .later [] _ _ _ _ MutatorNone_holds (fun _ h => by cases h) (by kernel_rfl) (fun _ h => by cases h) mutatorNone_row_tie rfl ⟨rfl, rfl⟩ (by kernel_rfl) rfl MutatorNone_plain (by kernel_rfl)
end Go.Proofs.YtipifkgmhgkleaaGreatDoor
