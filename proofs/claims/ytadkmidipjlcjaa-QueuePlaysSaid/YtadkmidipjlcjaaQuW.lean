/-
  A region that draws, whose last operation writes what the others load: every load may be taken first.
-/
import Derived.Test.YtadkmidipjlcjaaQuF
import Derived.Deep.RegionHeld
namespace Go.Proofs.Ytadkmidipjlcjaa.Qu

section
variable {P : Program} {ops : Array Oper} {Q : Exit → Act → World → Prop} {md : Region.Mode} {S : World → Prop} {e : Nat}

/-- Whatever has come up, all that it waits for had. -/
def ClosedL (md : Region.Mode) (ops : Array Oper) (listed : Array Bool) : Prop :=
  ∀ k o, ops[k]? = some o → listed.getD k false = true → ∀ x ∈ o.after, Region.binds md x = true → listed.getD x.on false = true
def closedB (md : Region.Mode) (ops : Array Oper) (listed : Array Bool) : Bool :=
  (List.range ops.size).all fun k => !listed.getD k false || match ops[k]? with
    | some o => o.after.all fun x => !Region.binds md x || listed.getD x.on false
    | none => true
theorem closed_of {listed : Array Bool} (h : closedB md ops listed = true) : ClosedL md ops listed := by
  intro k o hk hl x hx hb
  unfold closedB at h
  rw [List.all_eq_true] at h
  have h1 := h k (List.mem_range.2 (Array.getElem?_eq_some_iff.1 hk).1)
  rw [hl, hk] at h1
  simp only [Bool.not_true, Bool.false_or] at h1
  rw [Array.all_eq_true_iff_forall_mem] at h1
  have h2 := h1 x hx
  rw [hb] at h2
  simpa using h2
theorem ClosedL.next {listed : Array Bool} (h : ClosedL md ops listed) {j : Nat} (hj : j ∈ Region.ready md ops listed) : ClosedL md ops (listed.setIfInBounds j true) := by
  intro k o hk hl x hx hb
  by_cases hkj : k = j
  · subst hkj
    obtain ⟨_, o', ho, hall⟩ := mem_ready.1 hj
    rw [hk] at ho
    cases ho
    exact getD_set_true (hall x hx hb)
  · rw [getD_set_ne false (Ne.symm hkj)] at hl
    exact getD_set_true (h k o hk hl x hx hb)
/-- What e waits for, perhaps by way of others: gone through downward. -/
def markX (md : Region.Mode) (xs : List Edge) (m : Array Bool) : Array Bool := xs.foldl (fun m x => if Region.binds md x then m.setIfInBounds x.on true else m) m
def markF (md : Region.Mode) (ops : Array Oper) : Nat → Array Bool → Array Bool
  | 0, m => m
  | k + 1, m => markF md ops k (if m.getD k false then match ops[k]? with
    | some o => markX md o.after.toList m
    | none => m else m)
def markAll (md : Region.Mode) (ops : Array Oper) (e : Nat) : Array Bool := markF md ops ops.size ((Array.replicate ops.size false).setIfInBounds e true)
theorem mark_set {m : Array Bool} {j i : Nat} (h : (m.setIfInBounds j true).getD i false = true) : i = j ∨ m.getD i false = true := by
  by_cases hji : j = i
  · exact .inl hji.symm
  · rw [getD_set_ne false hji] at h; exact .inr h
theorem markX_sound {listed : Array Bool} : ∀ (xs : List Edge) (m : Array Bool), (∀ j, m.getD j false = true → j = e ∨ listed.getD j false = true) →
    (∀ x ∈ xs, Region.binds md x = true → listed.getD x.on false = true) → ∀ j, (markX md xs m).getD j false = true → j = e ∨ listed.getD j false = true
  | [], m, hm, _, j, h => hm j h
  | x :: xs, m, hm, hx, j, h => by
    refine markX_sound xs (if Region.binds md x then m.setIfInBounds x.on true else m) (fun i hi => ?_) (fun y hy => hx y (List.mem_cons_of_mem _ hy)) j h
    by_cases hb : Region.binds md x = true
    · rw [if_pos hb] at hi
      rcases mark_set hi with rfl | hi
      · exact .inr (hx x List.mem_cons_self hb)
      · exact hm i hi
    · rw [if_neg hb] at hi; exact hm i hi
theorem markF_sound {listed : Array Bool} (hC : ClosedL md ops listed) (he : ∀ o, ops[e]? = some o → ∀ x ∈ o.after, Region.binds md x = true → listed.getD x.on false = true) :
    ∀ (k : Nat) (m : Array Bool), (∀ j, m.getD j false = true → j = e ∨ listed.getD j false = true) → ∀ j, (markF md ops k m).getD j false = true → j = e ∨ listed.getD j false = true
  | 0, _, hm, j, h => hm j h
  | k + 1, m, hm, j, h => by
    unfold markF at h
    refine markF_sound hC he k _ ?_ j h
    by_cases hk : m.getD k false = true
    · rw [if_pos hk]
      cases ho : ops[k]? with
      | none => exact hm
      | some o =>
        refine markX_sound _ m hm (fun x hx hb => ?_)
        rw [Array.mem_toList_iff] at hx
        rcases hm k hk with rfl | hl
        · exact he o ho x hx hb
        · exact hC k o ho hl x hx hb
    · rw [if_neg hk]; exact hm
def waitsB (md : Region.Mode) (ops : Array Oper) (i e : Nat) : Bool := i != e && (markAll md ops e).getD i false
theorem waits_listed {listed : Array Bool} (hC : ClosedL md ops listed) {i : Nat} (h : waitsB md ops i e = true) (hl : ∀ o, ops[e]? = some o → ∀ x ∈ o.after, Region.binds md x = true → listed.getD x.on false = true) : listed.getD i false = true := by
  unfold waitsB at h
  rw [Bool.and_eq_true, bne_iff_ne] at h
  refine (markF_sound hC hl _ _ (fun j hj => ?_) i h.2).resolve_left h.1
  rcases mark_set hj with rfl | hj
  · exact .inl rfl
  · exfalso
    rw [Array.getD_eq_getD_getElem?, Array.getElem?_replicate] at hj
    split at hj <;> simp at hj
theorem not_ready {listed : Array Bool} (hC : ClosedL md ops listed) {i : Nat} (hw : waitsB md ops i e = true) (hi : listed.getD i true = false) : e ∉ Region.ready md ops listed := by
  intro hr
  obtain ⟨_, o, ho, hall⟩ := mem_ready.1 hr
  have h1 := waits_listed hC hw (fun o' ho' x hx hb => by rw [ho] at ho'; cases ho'; exact hall x hx hb)
  rcases Nat.lt_or_ge i listed.size with h' | h'
  · simp [h'] at hi h1; rw [hi] at h1; cases h1
  · simp [Array.getElem?_eq_none h'] at h1

/-- Whatever order is picked from here on; S holds behind every operation but e. -/
def wpAnyE (P : Program) (md : Region.Mode) (ops : Array Oper) (Q : Exit → Act → World → Prop) (S : World → Prop) (e : Nat) : Nat → Array Bool → Act → World → Prop
  | 0, listed, a, w => Region.ready md ops listed = [] ∧ Q .normal a w
  | fuel + 1, listed, a, w =>
    (Region.ready md ops listed = [] → Q .normal a w) ∧
    ∀ i ∈ Region.ready md ops listed, wpOp P ops Q i (fun a' w' => (i ≠ e → S w') ∧ wpAnyE P md ops Q S e fuel (listed.setIfInBounds i true) a' w') a w
theorem wpAny_of_E : ∀ (fuel : Nat) (listed : Array Bool) (a : Act) (w : World), wpAnyE P md ops Q S e fuel listed a w → wpAny P md ops Q fuel listed a w
  | 0, _, _, _, h => h
  | fuel + 1, _, _, _, h => ⟨h.1, fun i hi => wpOp_mono (fun a' w' h' => wpAny_of_E fuel _ a' w' h'.2) (h.2 i hi)⟩
theorem wpAnyE_first {i : Nat} {oi : Oper} {v : Value} (hi : ops[i]? = some oi) (hsel : ∀ (j : Nat) (o : Oper) cs b, ops[j]? = some o → o.op ≠ .select cs b)
    (hQ : ∀ c a w, Q (.panic c) (a.put oi.dst v) w → Q (.panic c) a w) (hw : waitsB md ops i e = true) :
    ∀ (fuel : Nat) (listed : Array Bool) (a : Act) (w : World), ClosedL md ops listed →
      (∀ j oj, ops[j]? = some oj → j ≠ i → listed.getD j true = false → (∀ e ∈ oj.after, Region.binds md e = true → e.on ≠ i) → oi.apart ops oj = true) →
      i ∈ Region.ready md ops listed → YieldsIf P ops S oi v a → S w →
      wpAnyE P md ops Q S e fuel (listed.setIfInBounds i true) (a.put oi.dst v) w → wpAnyE P md ops Q S e (fuel + 1) listed a w := by
  intro fuel
  induction fuel with
  | zero =>
    intro listed a w _ _ hr hy hS H
    refine ⟨fun h => (by rw [h] at hr; cases hr), fun j hj => ?_⟩
    by_cases hji : j = i
    · subst hji; exact hy.wpOp hi hS ⟨fun _ => hS, H⟩
    · have := ready_mono hj hji
      rw [H.1] at this
      cases this
  | succ fuel ih =>
    intro listed a w hC hfree hr hy hS H
    refine ⟨fun h => (by rw [h] at hr; cases hr), fun j hj => ?_⟩
    by_cases hji : j = i
    · subst hji; exact hy.wpOp hi hS ⟨fun _ => hS, H⟩
    · have hje : j ≠ e := fun h => not_ready hC hw (mem_ready.1 hr).1 (h ▸ hj)
      have h1 := H.2 j (ready_mono hj hji)
      obtain ⟨hjun, oj, hoj, hall⟩ := mem_ready.1 hj
      have hnot : ∀ e ∈ oj.after, Region.binds md e = true → e.on ≠ i := fun e he hb heq => by
        have h1 := hall e he hb
        have h0 := (mem_ready.1 hr).1
        rw [heq] at h1
        rcases Nat.lt_or_ge i listed.size with h' | h'
        · simp [h'] at h0 h1; rw [h0] at h1; cases h1
        · simp [Array.getElem?_eq_none h'] at h1
      have h2 := wpOp_putIf hoj (hfree j oj hoj hji hjun hnot) (fun cs b => hsel i oi cs b hi) (fun cs b => hsel j oj cs b hoj) hQ hy h1
      have hfree' : ∀ k ok, ops[k]? = some ok → k ≠ i → (listed.setIfInBounds j true).getD k true = false →
          (∀ e ∈ ok.after, Region.binds md e = true → e.on ≠ i) → oi.apart ops ok = true := fun k ok hk hki hun hno => by
        refine hfree k ok hk hki ?_ hno
        by_cases hjk : j = k
        · subst hjk; exact hjun
        · rw [getD_set_ne true hjk] at hun; exact hun
      refine wpOp_mono (fun a' w' h3 => ⟨h3.2.1, ih (listed.setIfInBounds j true) a' w' (hC.next hj) hfree' (ready_mono hr (Ne.symm hji)) h3.1 (h3.2.1 hje) ?_⟩) h2
      rw [Array.setIfInBounds_comm _ _ hji]
      exact h3.2.2
theorem wpAnyE_take (i : Nat) {oi : Oper} {v : Value} {fuel : Nat} {listed : Array Bool} {a : Act} {w : World} (hi : ops[i]? = some oi)
    (hs : Region.noSelect ops = true) (hf : Region.free md ops listed i = true) (hr : (Region.ready md ops listed).contains i = true) (hc : closedB md ops listed = true) (hw : waitsB md ops i e = true)
    (hQ : ∀ c a w, Q (.panic c) (a.put oi.dst v) w → Q (.panic c) a w) (hy : YieldsIf P ops S oi v a) (hS : S w)
    (h : wpAnyE P md ops Q S e fuel (listed.setIfInBounds i true) (a.put oi.dst v) w) : wpAnyE P md ops Q S e (fuel + 1) listed a w :=
  wpAnyE_first hi (Region.noSelect_spec hs) hQ hw fuel listed a w (closed_of hc) (Region.free_spec hi hf) (by simpa using hr) hy hS h
theorem wpAnyE_one (i : Nat) {o : Oper} {fuel : Nat} {listed : Array Bool} {a : Act} {w : World} (hr : Region.ready md ops listed = [i]) (hi : ops[i]? = some o)
    (h : ∀ K : Act → World → Prop, Shut (∀ a' w', (i ≠ e → S w') → wpAnyE P md ops Q S e fuel (listed.setIfInBounds i true) a' w' → K a' w') → if Region.wanted o (yielded ops a.tmps) = true then Oper.wp P o a w K Q else K (a.put o.dst undef) w) : wpAnyE P md ops Q S e (fuel + 1) listed a w := by
  refine ⟨fun h0 => absurd (hr ▸ h0) (by simp), fun j hj => ?_⟩
  rw [hr] at hj
  obtain rfl := List.mem_singleton.1 hj
  exact wpOp_step hi (fun K' hK => h K' (fun a' w' h1 h2 => hK a' w' ⟨h1, h2⟩))
theorem wpAnyE_oneN (i : Nat) {o : Oper} {fuel : Nat} {listed : Array Bool} {a : Act} {w : World} (hr : Region.ready md ops listed = [i]) (hi : ops[i]? = some o) (hg : o.guard = none)
    (h : ∀ K : Act → World → Prop, Shut (∀ a' w', (i ≠ e → S w') → wpAnyE P md ops Q S e fuel (listed.setIfInBounds i true) a' w' → K a' w') → Oper.wp P o a w K Q) : wpAnyE P md ops Q S e (fuel + 1) listed a w :=
  wpAnyE_one i hr hi (fun K hK => by rw [if_pos (by simp [Region.wanted, hg])]; exact h K hK)
theorem wpAnyE_done {listed : Array Bool} {a : Act} {w : World} (hr : Region.ready md ops listed = []) (h : Q .normal a w) : ∀ fuel, wpAnyE P md ops Q S e fuel listed a w
  | 0 => ⟨hr, h⟩
  | _ + 1 => ⟨fun _ => h, by rw [hr]; simp⟩
theorem wp_region_E (e : Nat) (S : World → Prop) (l : Array Bool) {id : Nat} {a : Act} {w : World} (hm : P.follows .mixedOrders = true) (hl : Array.replicate ops.size false = l)
    (h : wpAnyE P .any ops Q S e ops.size l a { w with drawn := w.drawn + 1 }) : (Code.region id ops true).wp P Q a w := by
  subst hl
  exact wp_region_any hm (wpAny_of_E _ _ _ _ h)
end
end Go.Proofs.Ytadkmidipjlcjaa.Qu
