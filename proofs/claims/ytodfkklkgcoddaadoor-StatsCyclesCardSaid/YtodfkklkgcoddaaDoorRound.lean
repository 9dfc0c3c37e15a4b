/-
  A region that draws its order, reads, and makes quiet calls, wherever it stands: also inside a round of a range over a function (an operation that defers is the only one that a round runs otherwise).
-/
import Derived.Test.YtodfkklkgcoddaaDoorRows
import Derived.Sort.QuietTacIn
import Derived.Sort.BigQuietIn
import Derived.KernelRfl
namespace Go.Proofs.YtodfkklkgcoddaaDoor
open Go
theorem wide_fn (f : Nat) : Fence.wide.fn f = True := rfl
section
variable {F : Fence} {n : Nat} {P : Program} {ops : Array Oper} {md : Region.Mode} {C : World → Prop}

/-- No operation defers. -/
def noDefer (ops : Array Oper) : Bool := ops.toList.all fun o => match o.op with | .defer _ => false | _ => true

theorem noDefer_at (h : noDefer ops = true) {i : Nat} {o : Oper} (hi : ops[i]? = some o) : ∀ c, o.op ≠ .defer c := fun c hc => by
  have hm : o ∈ ops.toList := by simpa using Array.mem_of_getElem? hi
  have := List.all_eq_true.1 h o hm
  rw [hc] at this
  cases this

theorem quiet_oper {o : Oper} {a : Act} {K : Act → Prop} {K' : Act → World → Prop} {Q' : Exit → Act → World → Prop} {w : World} (hd : ∀ c, o.op ≠ .defer c) (hC : C w) (hK : ∀ a w', C w' → K a → K' a w')
    (ha : o.askedIn F P a C) (hq : o.quietIn F n P a C K) : o.wpIn F n P a w K' Q' := by
  obtain ⟨v, hv, hk⟩ := hq
  have hr := hv w hC
  refine ⟨ha w hC, ?_⟩
  rw [Oper.semAt_eq F.round _ o hd]
  rcases hx : (execOp a.eval o).run P w with ⟨x, w1⟩ | ⟨x, w1⟩
  · rw [Oper.quietAtIn, hx] at hr
    cases x with
    | value u => obtain ⟨rfl, rfl⟩ := hr; exact hK _ _ hC hk
    | skip => obtain ⟨rfl, rfl⟩ := hr; exact hK _ _ hC hk
    | enter f args =>
      obtain ⟨rfl, h1, h2⟩ := hr
      refine ⟨h1, h2.mono fun e w2 ⟨he, hw2⟩ => ?_⟩
      subst he
      exact hK _ _ hw2 hk
    | _ => exact absurd hr (by simp [Oper.quietUponIn])
  · rw [Oper.quietAtIn, hx] at hr
    exact absurd hr (by simp [Oper.quietUponIn])

theorem quiet_orders {Q : Act → Prop} {Q' : Exit → Act → World → Prop} (hd : noDefer ops = true) (hQ : ∀ a w, C w → Q a → Q' .normal a w) :
    ∀ (fuel : Nat) (listed : Array Bool) (a : Act) (w : World), C w → wpAnyQIn F n P md ops C Q fuel listed a → wpAnyIn F n P md ops Q' fuel listed a w := by
  intro fuel
  induction fuel with
  | zero => exact fun _ _ _ hC h => ⟨h.1, hQ _ _ hC h.2⟩
  | succ fuel ih =>
    intro listed a w hC h
    refine ⟨fun h0 => hQ _ _ hC (h.1 h0), fun i hi => ?_⟩
    have hq := h.2 i hi
    unfold qOpIn at hq
    unfold wpOpIn
    cases ho : ops[i]? with
    | none => rw [ho] at hq; exact ih _ _ _ hC hq
    | some o =>
      rw [ho] at hq
      obtain ⟨h1, h2⟩ := hq
      cases hw : Region.wanted o (yielded ops a.tmps) with
      | true =>
        simp only [hw, if_true] at h2
        simp only [hw, if_true]
        exact quiet_oper (noDefer_at hd ho) hC (fun a' w' hw' hk => ih _ a' w' hw' hk) h1 h2
      | false =>
        simp only [hw, Bool.false_eq_true, if_false] at h2
        simp only [hw, Bool.false_eq_true, if_false]
        exact ⟨h1 w hC, ih _ _ _ hC h2⟩

/-- One walk in the text's order serves every order, in a round too. -/
theorem region_quietR {id : Nat} {Q : Exit → Act → World → Prop} {a : Act} {w : World} {l : List Oper} (hd : noDefer l.toArray = true) (hm : P.follows .mixedOrders = true) (hB : Region.lexB .any l.toArray = true)
    (h : wpQuietIn F n P l.toArray (fun w' => ∃ n, w' = w.drewN n) (fun a' => ∀ w', (∃ n, w' = w.drewN n) → Q .normal a' w') l a) : (Code.region id l.toArray true).wpIn F n P Q a w := by
  simp only [Region.lexB, Bool.and_eq_true] at hB
  refine wpIn_region_any hm (quiet_orders (C := fun w' => ∃ n, w' = w.drewN n) (Q := fun a' => ∀ w', (∃ n, w' = w.drewN n) → Q .normal a' w') hd (fun _ w' hw' h => h w' hw') _ _ _ _ ⟨1, rfl⟩ ?_)
  have := wpAnyQIn_lex (F := F) (n := n) (C := fun w' => ∃ n, w' = w.drewN n) (md := .any) hB.1 l 0 (Array.replicate l.toArray.size false) a (by simp) (by simpa using hB.2) h
  simpa using this
end
end Go.Proofs.YtodfkklkgcoddaaDoor
