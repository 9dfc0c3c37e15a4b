/-
  FairGrows: for every row of picks, any who and any part of the row the law answers true, and turns nothing that lay.
  Conditions: none.
-/
import Derived.Test.YthofknjdmfpbeaaLaw
import Derived.Test.YthofknjdmfpbeaaFaOp
import Derived.Test.YthofknjdmfpbeaaFaJ
namespace Go.Proofs.Ythofknjdmfpbeaa.Fa
open Go.ChangeShapes Go.WideShapes Go.ChangeAt Go.RowKit

theorem FairGrows_reads (t : TypeId) (ht : t ∈ Try.f6.params.toList) : Try.prog.readableRec t = true ∧ t < Try.prog.types.size := by
  rw [Try.params6] at ht
  have hall : ([22, 5, 35].all fun u => Try.prog.readableRec u && decide (u < Try.prog.types.size)) = true := by kernel_rfl
  have h1 := List.all_eq_true.1 hall t (by simpa using ht)
  simpa using h1

set_option maxRecDepth 100000 in
theorem FairGrows_lifted (os : Os) (started : os.Started) (H : Type) (enc : TypeId × Value → H) :
    ReturnsInHanded {} Try.checked os 6 .any (Rows.fairGrowsSpec.pre6 enc Try.prog Try.f6 Rows.fairGrowsRow.domain false) (Rows.fairGrowsSpec.post enc Try.prog Try.f6 false true false false) := by
  refine returnsInHanded_of_change (C := Try.checked) ownKn started (by kernel_rfl) Try.func6
    (ChangeSpec.witness6 (enc := enc) (C := Try.checked) false ⟨#[], #[.slice none 0 0, .int .u8 0, .agg #[.int .u8 0, .int .u8 0]], []⟩ 8 (by kernel_rfl) (by kernel_rfl) (by kernel_rfl) (by kernel_rfl)) ?_
  intro W base args ds gs before hval0 hW hcnd _
  have hval : ∀ (j : Nat) t v, Try.f6.params[j]? = some t → args[j]? = some v → Value.okWide Try.prog W .any base t v := hval0
  have hW' := hW
  obtain ⟨p, q, hA0, hV, rfl, hfz, hnd⟩ := hW
  have hA : DataW.TrodAll enc Try.prog W 0 (fun _ => true) true Try.f6.params.toList args.toList ds p := hA0
  rw [Try.params6] at hA hval
  obtain ⟨v0, vs0, d0, ds0, p0, q0, hargs, rfl, rfl, h0, r0⟩ := trodAll_cons hA
  obtain ⟨v1, vs1, d1, ds1, p1, q1, rfl, rfl, rfl, h1, r1⟩ := trodAll_cons r0
  obtain ⟨v2, vs2, d2, ds2, p2, q2, rfl, rfl, rfl, h2, r2⟩ := trodAll_cons r1
  obtain ⟨rfl, rfl, rfl⟩ := trodAll_nil r2
  obtain rfl : args = #[v0, v1, v2] := by cases args; simp_all
  obtain ⟨rfl, rfl⟩ := trodVars_none hV
  obtain ⟨pa, za, ca, rfl, ga, ka⟩ := open_list (hval 0 22 v0 rfl rfl) h0
  obtain ⟨z1, rfl, _, _, wf1⟩ := open_int Try.underlying5 (hval 1 5 v1 rfl rfl) h1
  have bd1 := bounds_u8 wf1
  obtain ⟨who, rfl⟩ := Int.eq_ofNat_of_zero_le bd1.1
  obtain ⟨x0, x1, rfl, hx0, hx1⟩ := open_two8 (hval 2 35 v2 rfl rfl) h2
  have fin : ∀ W', Below W.heap.size W W' → Rows.fairGrowsSpec.post enc Try.prog Try.f6 false true false false W _ (.bool true) W' := fun W' hb =>
    law_post laidO hW' rfl (by rfl) Try.underlying4 rfl FairGrows_reads hb
  refine (grows_walk pa za ca who x0 x1 (by omega) (by omega) (by omega) W ga ka).mono fun e W' ⟨he, hb⟩ => ?_
  subst he
  exact ⟨_, rfl, fin W' hb⟩

theorem FairGrows_holds : Rows.FairGrowsSaid :=
  OpenClaim.holds_of_wide 6 Try.f6 rfl rfl rfl rfl rfl rfl rfl ⟨rfl, rfl, rfl, rfl, rfl⟩ rfl rfl rfl rfl rfl (by kernel_rfl) Try.func6 (by kernel_rfl)
    (of_decide_eq_true (by kernel_rfl)) (by unfold Func.isWrapper; first | (rw [if_pos (by decide +kernel)]; kernel_rfl) | (rw [if_neg (by decide +kernel)]; exact ⟨rfl, rfl⟩))
    (fun os started H enc _ => FairGrows_lifted os started H enc)
end Go.Proofs.Ythofknjdmfpbeaa.Fa
