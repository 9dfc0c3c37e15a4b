/-
  Texts one behind the other: MvN MvM (theorems that nobody names are left out).
-/
import Derived.Test.YtipifkgmhgkleaaGreatDoorMzVd
namespace Go.Proofs.YtipifkgmhgkleaaGreatDoor.Mv
open Go.RowKit
open Hp (Ids St Is To Mine bnI coE coV fE fN lV lE sE stS ccE cV scE scS puE puS beE beS baE baS asS colB)
open Rf (paE paF paS)
open Mu (Sy Sd Ml Md lt_of_cell O4 CellsL mutA)
open Go.Proofs.YtipifkgmhgkleaaGreatDoor.Row (Chg rowB Rd)
/-- A step whose closure has no receiver bound. -/
def plain : K → Bool
  | .cm _ => false
  | .row _ => false
  | _ => true
theorem Ls.isFn {O : Nat → Nat} {w : World} {a N : Nat} {q : K} {v : Value} (h : Ls O w a N q v) (hp : plain q = true) : isFn v := by
  cases q with
  | cm t => cases hp
  | row l => cases hp
  | sweepM => exact h.elim
  | sweepC => exact h.elim
  | rk t => exact Rkv.isFn h
  | lk t => cases t with
    | fld x o => obtain ⟨b0, b1, b2, e, _⟩ := h; exact ⟨_, _, e⟩
    | cel o => obtain ⟨b0, b1, e, _⟩ := h; exact ⟨_, _, e⟩
  | th t => exact Thv.isFn h
  | an t => cases t with
    | sync => exact ⟨_, _, h⟩
    | _ => obtain ⟨b0, e, _⟩ := h; exact ⟨_, _, e⟩
  | fail code => obtain ⟨b0, b1, e, _⟩ := h; exact ⟨_, _, e⟩
  | object r f t => obtain ⟨b0, b1, b2, b3, tv, e, _⟩ := h; exact ⟨_, _, e⟩
  | take r rd => obtain ⟨b0, b1, b2, tv, e, _⟩ := h; exact ⟨_, _, e⟩
  | safe => obtain ⟨b0, e, _⟩ := h; exact ⟨_, _, e⟩
  | lay x la => obtain ⟨b0, b1, b2, lv, e, _⟩ := h; exact ⟨_, _, e⟩
  | over x rd la => obtain ⟨b0, b1, b2, b3, rv, tv, e, _⟩ := h; exact ⟨_, _, e⟩
  | slotA k o => obtain ⟨b0, b1, b2, b3, c0, c1, c2, c3, tv, e, _⟩ := h; exact ⟨_, _, e⟩
  | slotR k o => obtain ⟨b0, b1, b2, b3, c0, e, _⟩ := h; exact ⟨_, _, e⟩
  | assign k o => obtain ⟨b0, b1, b2, b3, tv, e, _⟩ := h; exact ⟨_, _, e⟩
  | late k o => obtain ⟨b0, b1, b2, tv, e, _⟩ := h; exact ⟨_, _, e⟩
  | sdone k o => obtain ⟨b0, b1, tv, e, _⟩ := h; exact ⟨_, _, e⟩
  | put sl x o => obtain ⟨b0, b1, b2, b3, p, cap, tv, e, _⟩ := h; exact ⟨_, _, e⟩
  | begin x o => obtain ⟨b0, b1, b2, e, _⟩ := h; exact ⟨_, _, e⟩
  | blank x f o => obtain ⟨b0, b1, b2, b3, e, _⟩ := h; exact ⟨_, _, e⟩
  | ans t => obtain ⟨b0, c0, c1, av, e, _⟩ := h; exact ⟨_, _, e⟩
  | note x c t => obtain ⟨b0, b1, b2, b3, b4, tv, e, _⟩ := h; exact ⟨_, _, e⟩
  | add x t => obtain ⟨b0, b1, b2, tv, e, _⟩ := h; exact ⟨_, _, e⟩
  | pour c t => obtain ⟨b0, b1, b2, tv, e, _⟩ := h; exact ⟨_, _, e⟩
  | paint c an t => obtain ⟨b0, b1, b2, b3, tv, e, _⟩ := h; exact ⟨_, _, e⟩
  | raise t => obtain ⟨b0, b1, tv, e, _⟩ := h; exact ⟨_, _, e⟩
  | awt m t => obtain ⟨b0, b1, b2, e, _⟩ := h; exact ⟨_, _, e⟩
  | cell i => obtain ⟨b0, b1, e, _⟩ := h; exact ⟨_, _, e⟩
  | look x t => obtain ⟨b0, b1, b2, tv, e, _⟩ := h; exact ⟨_, _, e⟩
  | fields x t => obtain ⟨b0, b1, b2, tv, e, _⟩ := h; exact ⟨_, _, e⟩
  | field x i n t => obtain ⟨b0, b1, b2, b3, b4, tv, e, _⟩ := h; exact ⟨_, _, e⟩
  | boxes e => obtain ⟨b0, b1, e, _⟩ := h; exact ⟨_, _, e⟩
  | walk sl => obtain ⟨b0, b1, p, cap, e, _⟩ := h; exact ⟨_, _, e⟩
  | cput k x t => obtain ⟨b0, b1, b2, b3, tv, e, _⟩ := h; exact ⟨_, _, e⟩
  | ref o => obtain ⟨c0, e, _⟩ := h; exact ⟨_, _, e⟩
  | asg k o => obtain ⟨c0, c1, c2, c3, tv, e, _⟩ := h; exact ⟨_, _, e⟩
section
variable {b : Ba} {z : Ml} {m : Md} {w : World} {x : Sd} {L : List (Nat × Nat × Value)} {Q : List (K × Value)}
end
end Go.Proofs.YtipifkgmhgkleaaGreatDoor.Mv

namespace Go.Proofs.YtipifkgmhgkleaaGreatDoor.Mv
open Go.RowKit
open Hp (Ids St Is To Mine bnI coE coV fE fN lV lE sE stS ccE cV scE scS puE puS beE beS baE baS asS colB)
open Rf (paE paF paS)
open Mu (Sy Sd Ml Md lt_of_cell O4 CellsL mutA)
open Go.Proofs.YtipifkgmhgkleaaGreatDoor.Row (Chg rowB Rd other same)
section
variable {b : Ba} {z : Ml} {m : Md} {w : World} {x : Sd} {L : List (Nat × Nat × Value)} {Q : List (K × Value)}
theorem Cx.held (h : Cx b (mxR b.y z m) w x L Q) (hP : b.P (4 + z.id)) (v : Int) : Cx b (mxR b.y z { m with he := v }) (w.setCell ⟨z.M, 10, none⟩ (.int .i64 v)) x L Q :=
  h.rec hP ((Chg.refl (fun k => k = z.M) w).set (p := ⟨z.M, 10, none⟩) (.inl rfl) _) (fun _p _c hc => hc.set 10 _) (fun _o => World.frozen?_setCell ..) rfl rfl rfl rfl rfl
end
end Go.Proofs.YtipifkgmhgkleaaGreatDoor.Mv
