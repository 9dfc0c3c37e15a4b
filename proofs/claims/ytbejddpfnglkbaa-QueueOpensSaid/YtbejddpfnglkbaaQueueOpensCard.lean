/-
  QueueOpens: for every row of classes and every row of takes the law answers true, and turns nothing that lay.
  Conditions: none.
-/
import Derived.Test.YtbejddpfnglkbaaLaw
import Derived.Test.YtbejddpfnglkbaaQuOpen
namespace Go.Proofs.Ytbejddpfnglkbaa.Qu
open Go.ChangeShapes Go.WideShapes Go.ChangeAt Go.RowKit

theorem QueueOpens_reads (t : TypeId) (ht : t ∈ Try.f6.params.toList) : Try.prog.readableRec t = true ∧ t < Try.prog.types.size := by
  rw [Try.params6] at ht
  have hall : ([41, 41].all fun u => Try.prog.readableRec u && decide (u < Try.prog.types.size)) = true := by kernel_rfl
  have h1 := List.all_eq_true.1 hall t (by simpa using ht)
  simpa using h1

set_option maxRecDepth 100000 in
theorem QueueOpens_lifted (os : Os) (started : os.Started) (H : Type) (enc : TypeId × Value → H) :
    ReturnsInHanded {} Try.checked os 6 .any (Rows.queueOpensSpec.pre6 enc Try.prog Try.f6 Rows.queueOpensRow.domain false) (Rows.queueOpensSpec.post enc Try.prog Try.f6 false true false false) := by
  refine returnsInHanded_of_change (C := Try.checked) ownKn started (by kernel_rfl) Try.func6
    (ChangeSpec.witness6 (enc := enc) (C := Try.checked) false ⟨#[], #[.slice none 0 0, .slice none 0 0], []⟩ 8 (by kernel_rfl) (by kernel_rfl) (by kernel_rfl) (by kernel_rfl)) ?_
  intro W base args ds gs before hval0 hW hcnd _
  have hval : ∀ (j : Nat) t v, Try.f6.params[j]? = some t → args[j]? = some v → Value.okWide Try.prog W .any base t v := hval0
  have hW' := hW
  obtain ⟨p, q, hA0, hV, rfl, hfz, hnd⟩ := hW
  have hA : DataW.TrodAll enc Try.prog W 0 (fun _ => true) true Try.f6.params.toList args.toList ds p := hA0
  rw [Try.params6] at hA hval
  obtain ⟨v0, vs0, d0, ds0, p0, q0, hargs, rfl, rfl, h0, r0⟩ := trodAll_cons hA
  obtain ⟨v1, vs1, d1, ds1, p1, q1, rfl, rfl, rfl, h1, r1⟩ := trodAll_cons r0
  obtain ⟨rfl, rfl, rfl⟩ := trodAll_nil r1
  obtain rfl : args = #[v0, v1] := by cases args; simp_all
  obtain ⟨rfl, rfl⟩ := trodVars_none hV
  obtain ⟨pa, za, ca, rfl, haa, hla⟩ := open_bytes (hval 0 41 v0 rfl rfl) h0
  obtain ⟨pb, zb, cb, rfl, hab, hlb⟩ := open_bytes (hval 1 41 v1 rfl rfl) h1
  have fin : ∀ W', Below W.heap.size W W' → Rows.queueOpensSpec.post enc Try.prog Try.f6 false true false false W _ (.bool true) W' := fun W' hb =>
    law_post laidO hW' rfl (by rfl) Try.underlying4 rfl QueueOpens_reads hb
  refine (opens_walk pa ca za pb cb zb W haa hla hab hlb).mono fun e W' ⟨he, hb⟩ => ?_
  subst he
  exact ⟨_, rfl, fin W' hb⟩

theorem QueueOpens_holds : Rows.QueueOpensSaid :=
  OpenClaim.holds_of_wide 6 Try.f6 rfl rfl rfl rfl rfl rfl rfl ⟨rfl, rfl, rfl, rfl, rfl⟩ rfl rfl rfl rfl rfl (by kernel_rfl) Try.func6 (by kernel_rfl)
    (of_decide_eq_true (by kernel_rfl)) (by unfold Func.isWrapper; first | (rw [if_pos (by decide +kernel)]; kernel_rfl) | (rw [if_neg (by decide +kernel)]; exact ⟨rfl, rfl⟩))
    (fun os started H enc _ => QueueOpens_lifted os started H enc)
end Go.Proofs.Ytbejddpfnglkbaa.Qu
