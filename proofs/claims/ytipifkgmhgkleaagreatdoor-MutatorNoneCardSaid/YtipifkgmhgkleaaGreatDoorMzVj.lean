/-
  Texts one behind the other: RgW Mvc Mvd Mve (theorems that nobody names are left out).
-/
import Derived.OrdersIn
import Derived.RangeFuncCalls
import Derived.Deep.RegionHeld
import Derived.Test.YtipifkgmhgkleaaGreatDoorMzVh
import Derived.Test.YtipifkgmhgkleaaGreatDoorMzLs2
import Derived.Test.YtipifkgmhgkleaaGreatDoorMzTol
import Derived.Test.YtipifkgmhgkleaaGreatDoorMzVi
namespace Go.Proofs.YtipifkgmhgkleaaGreatDoor.Rg

section
variable {P : Program} {ops : Array Oper} {Q : Exit → Act → World → Prop} {md : Region.Mode} {S : World → Prop} {e : Nat}

/-- Whatever has come up, all that it waits for had. -/
def ClosedL (md : Region.Mode) (ops : Array Oper) (listed : Array Bool) : Prop :=
  ∀ k o, ops[k]? = some o → listed.getD k false = true → ∀ x ∈ o.after, Region.binds md x = true → listed.getD x.on false = true
def closedB (md : Region.Mode) (ops : Array Oper) (listed : Array Bool) : Bool :=
  (List.range ops.size).all fun k => !listed.getD k false || match ops[k]? with
    | some o => o.after.all fun x => !Region.binds md x || listed.getD x.on false
    | none => true
theorem ClosedL.next {listed : Array Bool} (h : ClosedL md ops listed) {j : Nat} (hj : j ∈ Region.ready md ops listed) : ClosedL md ops (listed.setIfInBounds j true) := by
  intro k o hk hl x hx hb
  by_cases hkj : k = j
  · subst hkj
    obtain ⟨_, o', ho, hall⟩ := mem_ready.1 hj
    rw [hk] at ho
    cases ho
    exact getD_set_true (hall x hx hb)
  · rw [getD_set_ne false (Ne.symm hkj)] at hl
    exact getD_set_true (h k o hk hl x hx hb)
/-- What e waits for, perhaps by way of others: gone through downward. -/
def markX (md : Region.Mode) (xs : List Edge) (m : Array Bool) : Array Bool := xs.foldl (fun m x => if Region.binds md x then m.setIfInBounds x.on true else m) m
def markF (md : Region.Mode) (ops : Array Oper) : Nat → Array Bool → Array Bool
  | 0, m => m
  | k + 1, m => markF md ops k (if m.getD k false then match ops[k]? with
    | some o => markX md o.after.toList m
    | none => m else m)
def markAll (md : Region.Mode) (ops : Array Oper) (e : Nat) : Array Bool := markF md ops ops.size ((Array.replicate ops.size false).setIfInBounds e true)
def waitsB (md : Region.Mode) (ops : Array Oper) (i e : Nat) : Bool := i != e && (markAll md ops e).getD i false

/-- Whatever order is picked from here on; S holds behind every operation but e. -/
def wpAnyE (P : Program) (md : Region.Mode) (ops : Array Oper) (Q : Exit → Act → World → Prop) (S : World → Prop) (e : Nat) : Nat → Array Bool → Act → World → Prop
  | 0, listed, a, w => Region.ready md ops listed = [] ∧ Q .normal a w
  | fuel + 1, listed, a, w =>
    (Region.ready md ops listed = [] → Q .normal a w) ∧
    ∀ i ∈ Region.ready md ops listed, wpOp P ops Q i (fun a' w' => (i ≠ e → S w') ∧ wpAnyE P md ops Q S e fuel (listed.setIfInBounds i true) a' w') a w
end

section
variable {P : Program} {ops : Array Oper} {Q : Exit → Act → World → Prop} {md : Region.Mode} {S : World → Prop} {e : Nat}

def calmOps (ops : Array Oper) : Bool := ops.toList.all fun o => match o.op with | .defer _ => false | _ => true

/-- Q, but nothing is let out. -/
def Kept (Q : Exit → Act → World → Prop) : Exit → Act → World → Prop
  | .outgrown, _, _ => False
  | x, a, w => Q x a w
theorem Kept.imp : ∀ (x : Exit) (a : Act) (w : World), Kept Q x a w → Q x a w := fun x a w h => by cases x <;> first | exact h | exact h.elim

end
end Go.Proofs.YtipifkgmhgkleaaGreatDoor.Rg

namespace Go.Proofs.YtipifkgmhgkleaaGreatDoor.Mv
open Go.RowKit
open Hp (Ids St Is To Mine)
open Mu (Sy Sd Ml Md lt_of_cell O4)
open Go.Proofs.YtipifkgmhgkleaaGreatDoor.Row (Chg rowB Rd Rd0 other same)
/-- An owner that nobody else has. -/
structure Pv (b : Ba) (z : Ml) (c : Nat) : Prop where
  nP : ¬ b.P c
  c3 : 3000 < c
  id : z.id < 2996
  old : ∀ k, k < b.w.heap.size → b.O k ≠ c
theorem bound_of (O : Nat → Nat) : ∀ n, ∃ M, ∀ k, k < n → O k < M
  | 0 => ⟨0, fun k hk => by omega⟩
  | n + 1 => by
    obtain ⟨M, hM⟩ := bound_of O n
    refine ⟨max M (O n + 1), fun k hk => ?_⟩
    by_cases e : k = n
    · subst e; omega
    · have := hM k (by omega); omega
theorem Pv.new {b : Ba} {z : Ml} (hid : z.id < 2996) (hP : ∀ c, 3000 < c → ¬ b.P c) : ∃ c, Pv b z c := by
  obtain ⟨M, hM⟩ := bound_of b.O b.w.heap.size
  exact ⟨max M 3001, hP _ (by omega), by omega, hid, fun k hk e => by have := hM k hk; omega⟩
section
variable {b : Ba} {z : Ml} {m : Md} {w w' : World} {x : Sd} {L : List (Nat × Nat × Value)} {Q : List (K × Value)} {O O' : Nat → Nat} {d : Ids} {ps : Nat → Option Addr} {cs : Nat → Nat} {c : Nat}
theorem CxO.far (hv : Pv b z c) (h : CxO b (mxR b.y z m) w x L Q O d ps cs) {k : Nat} (hk : O k = c) : b.w.heap.size ≤ k := by
  by_cases e : k < b.w.heap.size
  · exact absurd ((h.mv.old k e).symm.trans hk) (hv.old k e)
  · omega
/-- What is private may turn as it likes. -/
theorem CxO.priv (hv : Pv b z c) (h : CxO b (mxR b.y z m) w x L Q O d ps cs) (hm : Mv (fun o => o = c) O O' w w') : CxO b (mxR b.y z m) w' x L Q O' d ps cs := by
  have h3 := hv.c3
  have h4 := hv.id
  have h0 : ¬ (fun o => o = c) 0 := fun e => by have e : 0 = c := e; omega
  have h1 : ¬ (fun o => o = c) 1 := fun e => by have e : 1 = c := e; omega
  have h2 : ¬ (fun o => o = c) 2 := fun e => by have e : 2 = c := e; omega
  obtain ⟨p, q, hr⟩ := h.r
  exact ⟨⟨h.mv.chg.trans hm.chg (fun i hi => .inr (h.far hv hi)), fun k hk => (hm.old k (Nat.lt_of_lt_of_le hk h.mv.chg.size)).trans (h.mv.old k hk), hm.new⟩, h.ok.mv hm h0, h.sx.mv hm h0 h1 h2,
    ⟨p, q, hr.mv hm h0 h2 (fun e => by have e : 4 + (dynM z p q).id = c := e; have : (dynM z p q).id = z.id := rfl; omega)⟩, fun p hp => (h.L p hp).mv hm h0, fun p hp => Ls.mv hm h0 _ _ (h.Q p hp)⟩
end
/-- The box X holds v; from N on only blocks of S are others' than its owner's. -/
def Sc (b : Ba) (z : Ml) (m : Md) (x : Sd) (L : List (Nat × Nat × Value)) (Q : List (K × Value)) (c X : Nat) (v : Value) (N : Nat) (S : Nat → Prop) (w : World) : Prop :=
  ∃ O d ps cs, CxO b (mxR b.y z m) w x L Q O d ps cs ∧ O X = c ∧ w.cell? ⟨X, 0, none⟩ = some v ∧ w.frozen? ⟨X, 0, none⟩ = false ∧ X < N ∧ N ≤ w.heap.size ∧ ∀ k, N ≤ k → k < w.heap.size → ¬ S k → O k = c
section
variable {b : Ba} {z : Ml} {m : Md} {w w' : World} {x : Sd} {L L' : List (Nat × Nat × Value)} {Q Q' : List (K × Value)} {c X N : Nat} {v v' : Value} {S S' : Nat → Prop}
theorem Sc.cx (h : Sc b z m x L Q c X v N S w) : Cx b (mxR b.y z m) w x L Q := by
  obtain ⟨O, d, ps, cs, h, _⟩ := h
  exact ⟨O, d, ps, cs, h⟩
theorem Sc.less (h : Sc b z m x L Q c X v N S w) (hL : ∀ p ∈ L', p ∈ L) (hQ : ∀ p ∈ Q', p ∈ Q) : Sc b z m x L' Q' c X v N S w := by
  obtain ⟨O, d, ps, cs, h, k⟩ := h
  exact ⟨O, d, ps, cs, ⟨h.mv, h.ok, h.sx, h.r, fun p hp => h.L p (hL p hp), fun p hp => h.Q p (hQ p hp)⟩, k⟩
theorem Sc.box (h : Sc b z m x L Q c X v N S w) : w.cell? ⟨X, 0, none⟩ = some v ∧ w.frozen? ⟨X, 0, none⟩ = false ∧ X < N ∧ N ≤ w.heap.size := by
  obtain ⟨O, d, ps, cs, _, _, h2, h3, h4, h5, _⟩ := h
  exact ⟨h2, h3, h4, h5⟩
/-- From here on. -/
theorem Sc.here (h : Sc b z m x L Q c X v N S w) : Sc b z m x L Q c X v w.heap.size S' w := by
  obtain ⟨O, d, ps, cs, h, h1, h2, h3, h4, h5, _⟩ := h
  exact ⟨O, d, ps, cs, h, h1, h2, h3, Nat.lt_of_lt_of_le h4 h5, Nat.le_refl _, fun k a e _ => by omega⟩
/-- Another box, of nobody's. -/
theorem Sc.alloc1 (h : Sc b z m x L Q c X v N S w) (u : Value) (t : TypeId) :
    Sc b z m x ((w.heap.size, 0, u) :: L) Q c X v (w.alloc (.cells #[u] t)).heap.size S' (w.alloc (.cells #[u] t)) := by
  obtain ⟨O, d, ps, cs, h, h1, h2, h3, h4, h5, _⟩ := h
  have hb : Below w.heap.size w (w.alloc (.cells #[u] t)) := (Below.refl _ _).alloc (Nat.le_refl _) _
  have hX : X < w.heap.size := Nat.lt_of_lt_of_le h4 h5
  have h' := h.later hb
  refine ⟨O, d, ps, cs, ⟨h'.mv, h'.ok, h'.sx, h'.r, fun p hp => ?_, h'.Q⟩, h1, (hb.cell (p := ⟨X, 0, none⟩) hX).trans h2, (hb.frozen (p := ⟨X, 0, none⟩) hX).trans h3, by rw [World.size_alloc]; omega, Nat.le_refl _, fun k a e _ => by omega⟩
  rcases List.mem_cons.1 hp with rfl | hp
  · refine ⟨?_, Classical.byContradiction fun e => by have := h.ok.lt _ e; omega⟩
    rw [World.cell?_alloc_new]; rfl
  · exact h'.L p hp
/-- What an iterator lays and turns is private. -/
theorem Sc.stab (hv : Pv b z c) (h : Sc b z m x L Q c X v N S w) (hb : Below N w w') (hk : ∀ k, S k → w'.heap[k]? = w.heap[k]?) : Sc b z m x L Q c X v N S w' := by
  obtain ⟨O, d, ps, cs, h, h1, h2, h3, h4, h5, h6⟩ := h
  have c3 := hv.c3
  have hm : Mv (fun o => o = c) O (fun k => if k < w.heap.size then O k else if k < w'.heap.size then c else 0) w w' := by
    refine ⟨⟨hb.os, hb.tape, hb.output, hb.size, fun k hl hn => ?_⟩, fun k hl => if_pos hl, fun k hn => ?_⟩
    · by_cases e : k < N
      · exact hb.block k e
      · by_cases e2 : S k
        · exact hk k e2
        · exact absurd (h6 k (by omega) hl e2) hn
    · have hn : (if k < w.heap.size then O k else if k < w'.heap.size then c else 0) ≠ 0 := hn
      have := hb.size
      by_cases e : k < w.heap.size
      · omega
      · rw [if_neg e] at hn
        by_cases e2 : k < w'.heap.size
        · exact e2
        · rw [if_neg e2] at hn; exact absurd rfl hn
  refine ⟨_, d, ps, cs, h.priv hv hm, ?_, (hb.cell (p := ⟨X, 0, none⟩) h4).trans h2, (hb.frozen (p := ⟨X, 0, none⟩) h4).trans h3, h4, Nat.le_trans h5 hb.size, fun k a e n => ?_⟩
  · show (if X < w.heap.size then O X else _) = c
    rw [if_pos (by omega)]; exact h1
  · show (if k < w.heap.size then O k else if k < w'.heap.size then c else 0) = c
    by_cases e2 : k < w.heap.size
    · rw [if_pos e2]; exact h6 k a e2 n
    · rw [if_neg e2, if_pos e]
/-- The box is written. -/
theorem Sc.set (hv : Pv b z c) (h : Sc b z m x L Q c X v N S w) (u : Value) : Sc b z m x L Q c X u N S (w.setCell ⟨X, 0, none⟩ u) := by
  obtain ⟨O, d, ps, cs, h, h1, h2, h3, h4, h5, h6⟩ := h
  have hm : Mv (fun o => o = c) O O w (w.setCell ⟨X, 0, none⟩ u) := Mv.own h.ok ((Chg.refl (fun k => k = X) w).set (.inl rfl) u) (fun k e => by rw [show k = X from e]; exact h1)
  refine ⟨O, d, ps, cs, h.priv hv hm, h1, ?_, ?_, h4, by simpa using h5, fun k a e n => h6 k a (by simpa using e) n⟩
  · exact same h2
  · simpa using h3
/-- A closure more, laid from the one that the box holds. -/
theorem Sc.note (hf : Fits b z) (hv : Pv b z c) (h : Sc b z m x L Q c X v N S w) (y t : Int) {f : FuncId} {cap : Array Value} (q : K) (hq : (q, fn f cap) ∈ Q) :
    Calls Tryz.prog 181 #[.pointer (some ⟨z.N, 0, none⟩), .int .i64 y, .int .i64 t, .func (.func f) #[] cap] w fun e w' => ∃ g c2 S', e = .returned (.func (.func g) #[] c2) ∧ Sc b z m x L ((noteK y t q, fn g c2) :: Q) c X v N S' w' ∧ Turn N S S' w w' := by
  obtain ⟨O, d, ps, cs, h, h1, h2, h3, h4, h5, h6⟩ := h
  have hB : Cx { b with w := w, O := O } (mxR b.y z m) w x L Q := ⟨O, d, ps, cs, ⟨Mv.refl h.ok, h.ok, h.sx, h.r, h.L, h.Q⟩⟩
  refine (mk_note_any (b := { b with w := w, O := O }) y t q hB ⟨hf.a, hf.N, hf.P, hf.n, hf.nb⟩ hq).mono ?_
  rintro e w' ⟨g, c2, rfl, O', d', ps', cs', k⟩
  have hX : X < w.heap.size := Nat.lt_of_lt_of_le h4 h5
  have hm : Mv b.P O O' w w' := k.mv
  have hnX : ¬ b.P (O X) := by rw [h1]; exact hv.nP
  refine ⟨g, c2, fun j => N ≤ j ∧ j < w'.heap.size ∧ O' j ≠ c, rfl, ⟨O', d', ps', cs', ⟨h.mv.trans hm, k.ok, k.sx, k.r, k.L, k.Q⟩, (hm.old X hX).trans h1, (hm.chg.cell (p := ⟨X, 0, none⟩) hX hnX).trans h2, (hm.chg.frozen (p := ⟨X, 0, none⟩) hX hnX).trans h3, h4, Nat.le_trans h5 hm.chg.size,
    fun j a e n => Classical.byContradiction fun hn => n ⟨a, e, hn⟩⟩, hm.chg.size, fun j a e n => hm.chg.block j e (by rw [h6 j a e n]; exact hv.nP), fun j hj => ?_, fun j hj => hj.2.1⟩
  by_cases e : j < w.heap.size
  · left
    exact Classical.byContradiction fun n => hj.2.2 ((hm.old j e).trans (h6 j hj.1 e n))
  · exact .inr (by omega)
end
end Go.Proofs.YtipifkgmhgkleaaGreatDoor.Mv

namespace Go.Proofs.YtipifkgmhgkleaaGreatDoor.Mv
open Go.RowKit
open Hp (Ids St Is To Mine)
open Mu (Sy Sd Ml Md lt_of_cell O4)
open Lis (backward_told backward_fn encB idxB tellB)
open Go.Proofs.YtipifkgmhgkleaaGreatDoor.Row (Chg rowB Rd Rd0 other same)
attribute [local go_sem] Oper.semAt_some
/-- What a scan comes to. -/
def scanK (t : Int) (l : List Int) : K := l.foldr (fun v q => noteK v t q) (.ans .scan)
section
variable {b : Ba} {z : Ml} {m : Md} {w : World} {x : Sd} {L : List (Nat × Nat × Value)} {Q : List (K × Value)}
end
end Go.Proofs.YtipifkgmhgkleaaGreatDoor.Mv

namespace Go.Proofs.YtipifkgmhgkleaaGreatDoor.Mv
open Go.RowKit
open Mu (Sy Sd Ml Md lt_of_cell O4)
section
variable {b : Ba} {z : Ml} {m : Md} {w : World} {x : Sd} {L : List (Nat × Nat × Value)} {Q : List (K × Value)}
/-- What an answer begins with. -/
def rpA (m : Md) (k : Int) : K := if k = 3 then scanK m.tb m.rg else rpK m k
end
end Go.Proofs.YtipifkgmhgkleaaGreatDoor.Mv
