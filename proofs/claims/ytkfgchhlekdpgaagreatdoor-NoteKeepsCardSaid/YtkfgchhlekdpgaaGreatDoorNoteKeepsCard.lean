/-
  NoteKeeps: for every case and row of values the law answers true, and turns nothing that lay.
  Conditions: the variables dustpan/config.limits and dustpan/class.sizes start as the program's text lays them (the card ties them).
-/
import Derived.Test.YtkfgchhlekdpgaaGreatDoorLai
import Derived.Test.YtkfgchhlekdpgaaGreatDoorNtU
import Derived.Test.YtkfgchhlekdpgaaGreatDoorNtOp
namespace Go.Proofs.YtkfgchhlekdpgaaGreatDoor.Nt
open Go.ChangeShapes Go.WideShapes Go.ChangeAt Go.RowKit
open Go.Proofs.YtkfgchhlekdpgaaGreatDoor.Addr (Tabs)

theorem door_limits_sizes (os : Os) (args : Array Value) : laidMetH Tryz.prog [("dustpan/config.limits", Rows.laid_dustpan_config_limits), ("dustpan/class.sizes", Rows.laid_dustpan_class_sizes)] ((World.doorLaid Tryz.prog 400 os).forCall (fun _ _ => 0) ⟨#[], args, []⟩).memory :=
  laidMetH_of_parts3 (fuel := 8) (laidMet_of_run' 8 (by kernel_rfl) (by kernel_rfl)) (by kernel_rfl) (by kernel_rfl)

theorem NoteKeeps_reads (t : TypeId) (ht : t ∈ Tryz.f6.params.toList) : Tryz.prog.readableRec t = true ∧ t < Tryz.prog.types.size := by
  rw [Tryz.params6] at ht
  have hall : ([27, 25].all fun u => Tryz.prog.readableRec u && decide (u < Tryz.prog.types.size)) = true := by kernel_rfl
  have h1 := List.all_eq_true.1 hall t (by simpa using ht)
  simpa using h1

set_option maxRecDepth 100000 in
theorem NoteKeeps_lifted (os : Os) (started : os.Started) (H : Type) (enc : TypeId × Value → H) :
    ReturnsInHanded {} Tryz.checked os 6 .any (fun w args => (Rows.noteKeepsSpec.pre enc Tryz.prog Tryz.f6 [] false w args ∧ laidMetH Tryz.prog [("dustpan/config.limits", Rows.laid_dustpan_config_limits), ("dustpan/class.sizes", Rows.laid_dustpan_class_sizes)] w) ∧ sizedMet enc Tryz.prog Tryz.f6 (OpenSpec.ofChange Rows.noteKeepsSpec) false w args)
      (Rows.noteKeepsSpec.post enc Tryz.prog Tryz.f6 false true false false) := by
  refine returnsInHanded_of_change_and (C := Tryz.checked) (X := fun w _ => laidMetH Tryz.prog [("dustpan/config.limits", Rows.laid_dustpan_config_limits), ("dustpan/class.sizes", Rows.laid_dustpan_class_sizes)] w) (fun _ _ _ hh h => h.of_heap hh) ownKn started (by kernel_rfl) Tryz.func6
    (ChangeSpec.witness_shaped (enc := enc) (C := Tryz.checked) (os := os) (X := fun w _ => laidMetH Tryz.prog [("dustpan/config.limits", Rows.laid_dustpan_config_limits), ("dustpan/class.sizes", Rows.laid_dustpan_class_sizes)] w) false (World.doorLaid Tryz.prog 400 os) #[.agg #[.int .i64 0, .int .i64 0, .int .i64 0, .int .i64 0, .int .i64 0, .int .i64 0, .int .i64 0, .slice none 0 0, .slice none 0 0, .slice none 0 0, .int .u8 0, .bool false], .slice none 0 0] 8 rfl (World.shaped_of_RefB (by kernel_rfl) (by kernel_rfl)) (by kernel_rfl) (by kernel_rfl) (by kernel_rfl) (door_limits_sizes os _)) ?_
  intro W base args ds gs before hval0 hW _ _ hL _
  have hval : ∀ (j : Nat) t v, Tryz.f6.params[j]? = some t → args[j]? = some v → Value.okWide Tryz.prog W .any base t v := hval0
  have hW' := hW
  obtain ⟨p, q, hA0, hV, rfl, hfz, hnd⟩ := hW
  have hA : DataW.TrodAll enc Tryz.prog W 0 (fun _ => true) true Tryz.f6.params.toList args.toList ds p := hA0
  rw [Tryz.params6] at hA hval
  obtain ⟨v0, vs0, d0, ds0, p0, q0, hargs, rfl, rfl, h0, r0⟩ := trodAll_cons hA
  obtain ⟨v1, vs1, d1, ds1, p1, q1, rfl, rfl, rfl, h1, r1⟩ := trodAll_cons r0
  obtain ⟨rfl, rfl, rfl⟩ := trodAll_nil r1
  obtain rfl : args = #[v0, v1] := by cases args; simp_all
  obtain ⟨rfl, rfl⟩ := trodVars_none hV
  rw [MakeChecks.laidMetH_plain _ _ _ (by kernel_rfl)] at hL
  have t_limits := limTab_of hL
  have t_sizes := sizTab_of hL.tail
  obtain ⟨q, rfl, hq⟩ := open_case (hval 0 27 v0 rfl rfl) h0
  obtain ⟨pv, lv, cv, rfl, hv, hvl⟩ := open_vals (hval 1 25 v1 rfl rfl) h1
  have t_tabs : Tabs W := ⟨t_limits, t_sizes⟩
  have fin : ∀ W', Below W.heap.size W W' → Rows.noteKeepsSpec.post enc Tryz.prog Tryz.f6 false true false false W _ (.bool true) W' := fun W' hb =>
    law_post laidO hW' rfl (by rfl) Tryz.underlying4 rfl NoteKeeps_reads hb
  refine (keeps_walk q pv cv lv W t_tabs hq hv hvl).mono fun e W' ⟨he, hb⟩ => ?_
  subst he
  exact ⟨_, rfl, fin W' hb⟩

theorem NoteKeeps_holds : Rows.NoteKeepsSaid :=
  OpenClaim.holds_of_wide 6 Tryz.f6 rfl rfl rfl rfl rfl rfl rfl ⟨rfl, rfl, rfl, rfl, rfl⟩ rfl rfl rfl rfl rfl (by kernel_rfl) Tryz.func6 (by kernel_rfl)
    (of_decide_eq_true (by kernel_rfl)) (by unfold Func.isWrapper; first | (rw [if_pos (by decide +kernel)]; kernel_rfl) | (rw [if_neg (by decide +kernel)]; exact ⟨rfl, rfl⟩))
    (fun os started H enc _ => NoteKeeps_lifted os started H enc)

theorem NoteKeeps_plain (f : FuncId) (fn : Func) (hf : Tryz.pinned.checked.prog.funcNamed "dustpan/dustpanlaw19.NoteKeeps" = some f) (hfn : Tryz.pinned.checked.prog.funcs[f]? = some fn) :
    false = Tryz.pinned.checked.prog.looks [] ∧ ∀ (j : Nat) t, fn.params[j]? = some t → Tryz.pinned.checked.prog.wantsStandIn t = false := by
  obtain rfl : f = 6 := Option.some.inj ((show Tryz.prog.funcNamed "dustpan/dustpanlaw19.NoteKeeps" = some 6 by kernel_rfl).symm.trans hf) |>.symm
  obtain rfl : fn = Tryz.f6 := (Option.some.inj (Tryz.func6.symm.trans hfn)).symm
  refine ⟨by kernel_rfl, fun j t ht => ?_⟩
  rw [Tryz.params6] at ht
  have hm : t ∈ [27, 25] := by simpa using Array.mem_of_getElem? ht
  have hall : ([27, 25].all fun u => !Tryz.prog.wantsStandIn u) = true := by kernel_rfl
  exact (show Tryz.prog.wantsStandIn t = false by simpa using List.all_eq_true.1 hall t hm)

theorem NoteKeeps_card : Rows.NoteKeepsCardSaid :=
  Claim7.holds_tied_plain_at .later [] _ _ _ _ NoteKeeps_holds (fun _ h => by cases h) (by kernel_rfl) (fun _ h => by cases h) noteKeeps_row_tie rfl ⟨rfl, rfl⟩ (by kernel_rfl) rfl NoteKeeps_plain (by kernel_rfl)
end Go.Proofs.YtkfgchhlekdpgaaGreatDoor.Nt
