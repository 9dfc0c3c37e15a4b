/-
  A range over a function whose iterator ranges over another one itself: what it asks of a round, by its own entry; the walk of the loop that takes it.
-/
import Derived.Test.YtahhenbphnejiaaDoorBitsD
namespace Go.Proofs.YtahhenbphnejiaaDoor.Bits
open Go.RowKit Go.Shelf
variable {F : Fence} {n : Nat} {P : Program}

/-- How a round's body may be left: the record is busy still; what is asked holds once it is turned. -/
def roundEnd (l : Nat) (rec : LoopState → Option Code → Loop) (RT : World → Prop) (RF : Code → World → Prop) : Exit → Act → World → Prop
  | .normal, _, W => W.heap[l]? = some (.loop (rec .busy none)) ∧ RT (W.putObj l (.loop (rec .ready none)))
  | .ret, _, W => W.heap[l]? = some (.loop (rec .busy none)) ∧ RF .ret (W.putObj l (.loop (rec .done (some .ret))))
  | .exit id, _, W => W.heap[l]? = some (.loop (rec .busy none)) ∧ RF (.exit id) (W.putObj l (.loop (rec .done (some (.exit id)))))
  | .goto t, _, W => W.heap[l]? = some (.loop (rec .busy none)) ∧ RF (.goto t) (W.putObj l (.loop (rec .done (some (.goto t)))))
  | .panic _, _, _ => False
  | .outgrown, _, _ => False

/-- The record of a loop. -/
abbrev recOf (fn : FuncId) (tmps : Array Value) (ps : Array Tmp) (assign body : Code) (ds : Nat) (st : LoopState) (pe : Option Code) : Loop :=
  { state := st, pending := pe, fn, tmps, params := ps, assign, body, defers := ds }

theorem yield_of_body {l : Nat} {fn : FuncId} {tmps : Array Value} {ps : Array Tmp} {assign body : Code} {ds : Nat} {W : World} {xs : Array Value} {a₁ : Act} {RT : World → Prop} {RF : Code → World → Prop}
    (hfn : F.fn fn) (hl : W.heap[l]? = some (.loop (recOf fn tmps ps assign body ds .ready none))) (hps : xs.size = ps.size)
    (hassign : ∀ K : Act → World → Prop, K a₁ W → assign.wpIn (F.inRound l) n P (Exit.then K (fun _ _ _ => False)) { tmps := (ps.zip xs).foldl (fun t (p, v) => t.setIfInBounds p v) tmps, defers := [] } W)
    (hbody : body.wpIn (F.inRound l) n P (roundEnd l (recOf fn tmps ps assign body ds) RT RF) a₁ (W.putObj l (.loop (recOf fn tmps ps assign body ds .busy none)))) :
    YieldAt F n P l xs W fun e W' => (e = .returned (.bool true) ∧ RT W') ∨ (e = .returned (.bool false) ∧ ∃ c, RF c W') := by
  refine ⟨fn, _, assign, body, run_yield hl hps, roundIn_of_wpIn hfn (hassign _ ⟨_, run_beginRound hl rfl, wpIn_mono hbody ?_⟩)⟩
  intro e a W3 h
  cases e with
  | normal => exact ⟨_, _, run_endRound none h.1, .inl ⟨rfl, h.2⟩⟩
  | ret => exact ⟨_, _, run_endRound _ h.1, .inr ⟨rfl, _, h.2⟩⟩
  | exit id => exact ⟨_, _, run_endRound _ h.1, .inr ⟨rfl, _, h.2⟩⟩
  | goto t => exact ⟨_, _, run_endRound _ h.1, .inr ⟨rfl, _, h.2⟩⟩
  | panic ch => exact h.elim
  | outgrown => exact h.elim

/-- What lies from lo on, up to hi, lies as it lay. -/
def KeepsIn (lo hi : Nat) (W W' : World) : Prop := ∀ k, lo ≤ k → k < hi → W'.heap[k]? = W.heap[k]?
theorem KeepsIn.refl (lo hi : Nat) (W : World) : KeepsIn lo hi W W := fun _ _ _ => rfl
theorem KeepsIn.trans {lo hi : Nat} {A B C : World} (h : KeepsIn lo hi A B) (k : KeepsIn lo hi B C) : KeepsIn lo hi A C := fun i h1 h2 => (k i h1 h2).trans (h i h1 h2)
theorem KeepsIn.mono {lo hi lo' hi' : Nat} {A B : World} (h : KeepsIn lo hi A B) (h1 : lo ≤ lo') (h2 : hi' ≤ hi) : KeepsIn lo' hi' A B := fun i a b => h i (Nat.le_trans h1 a) (Nat.lt_of_lt_of_le b h2)

/-- AN ITERATOR THAT LAYS BLOCKS OF ITS OWN ahead of its first round (up to whatever bound hi: what the caller says is told of that bound), and that wants T of each round's world: a round keeps them, and whatever holds no cells, from the iterator's entry on. -/
def SeqOwn {α : Type} (F : Fence) (n : Nat) (P : Program) (g : Nat) (lb : Array Value) (encs : α → Array Value) (T : World → Prop) (S Sp : List α → Prop) (N : Nat) (w : World) : Prop :=
  ∀ (l : Nat) (J : Nat → List α → World → Prop) (Jx : List α → World → Prop) (W : World), Below w.heap.size w W → (∀ hi, OwnFrom W.heap.size (J hi)) → OwnFrom W.heap.size Jx → (∀ hi pre W1, J hi pre W1 → T W1) →
    (∀ hi pre x W1, J hi pre W1 → hi ≤ W1.heap.size → pre.length < N → YieldAt F (n - 1) P l (encs x) W1 fun e W' => KeepsFrom W.heap.size W1 W' ∧
      ((e = .returned (.bool true) ∧ J hi (pre ++ [x]) W' ∧ KeepsIn W.heap.size hi W1 W') ∨ (e = .returned (.bool false) ∧ Jx (pre ++ [x]) W'))) →
    (∀ hi, J hi [] W) →
    CallsIn F n P g (#[.func (.yield l) #[] #[]] ++ lb) W fun e W' => (∃ v, e = .returned v) ∧ ((∃ hi xs, S xs ∧ J hi xs W') ∨ (∃ pre, Sp pre ∧ Jx pre W'))

/-- How a body may be left. -/
def ownPostO {α : Type} (B lo hi : Nat) (I : List α → World → Prop) (Ix : Code → List α → World → Prop) (xs : List α) (W : World) : Exit → Act → World → Prop
  | .normal, _, W' => KeepsFrom B W W' ∧ KeepsIn lo hi W W' ∧ I xs W'
  | .ret, _, W' => KeepsFrom B W W' ∧ Ix .ret xs W'
  | .exit id, _, W' => KeepsFrom B W W' ∧ Ix (.exit id) xs W'
  | .goto t, _, W' => KeepsFrom B W W' ∧ Ix (.goto t) xs W'
  | .panic _, _, _ => False
  | .outgrown, _, _ => False

theorem keepsFrom_putObj {B l : Nat} (h : l < B) (W : World) (o : Obj) : KeepsFrom B W (W.putObj l o) := KeepsFrom.of_grownBy (grownBy_putObj' W l o) (fun j e => by cases e; exact h)
theorem keepsIn_putObj {lo hi l : Nat} (h : l < lo) (W : World) (o : Obj) : KeepsIn lo hi W (W.putObj l o) := fun k h1 _ => World.putObj_heap_other (by omega)

theorem wpIn_rangeFunc_ownO {α : Type} {g : Operand} {ps : Array Tmp} {assign body : Code} {Q : Exit → Act → World → Prop} {a : Act} {w : World}
    (hro : F.round = none) (h1 : 1 ≤ n) {gf : Nat} {lb : Array Value} (hg : a.eval g = .func (.func gf) #[] lb) (hFg : F.fn gf) (eg : ∀ args w, (callFunc gf args).run P w = .ok (.enter gf args) w)
    {encs : α → Array Value} {T : World → Prop} {S Sp : List α → Prop} {N : Nat} {w0 : World} (hseq : SeqOwn F (n - 1) P gf lb encs T S Sp N w0)
    (hb0 : Below w0.heap.size w0 w) (hps : ∀ x, (encs x).size = ps.size)
    (I : Nat → List α → World → Prop) (Ix : Code → List α → World → Prop) (hI : ∀ hi, OwnFrom w.heap.size (I hi)) (hIx : ∀ c, OwnFrom w.heap.size (Ix c)) (hT : ∀ hi pre W, I hi pre W → T W) (h0 : ∀ hi, I hi [] w) (a₁ : α → Act)
    (hassign : ∀ (l : Nat) (x : α) (W : World) (K : Act → World → Prop), K (a₁ x) W →
      assign.wpIn (F.inRound l) (n - 1 - 1) P (Exit.then K (fun _ _ _ => False)) { tmps := (ps.zip (encs x)).foldl (fun t (p, v) => t.setIfInBounds p v) a.tmps, defers := [] } W)
    (hbody : ∀ (l hi : Nat) (pre : List α) (x : α) (W : World), w.heap.size ≤ l → (∃ r, W.heap[l]? = some (.loop r)) → I hi pre W → pre.length < N → hi ≤ W.heap.size →
      body.wpIn (F.inRound l) (n - 1 - 1) P (ownPostO w.heap.size (w.heap.size + 2) hi (I hi) Ix (pre ++ [x]) W) (a₁ x) W)
    (hdone : ∀ (D hi : Nat) (xs : List α) (W : World), w.heap.size ≤ D → S xs → I hi xs W → W.heap[D]? = some (.deferred (some [])) → Q .normal { a with defers := { target := .collected D, args := #[] } :: a.defers } W)
    (hstop : ∀ (D : Nat) (c : Code) (pre : List α) (W : World), w.heap.size ≤ D → Sp pre → Ix c pre W → W.heap[D]? = some (.deferred (some [])) → c.wpIn F n P Q { a with defers := { target := .collected D, args := #[] } :: a.defers } W) :
    (Code.rangeFunc g ps assign body).wpIn F n P Q a w := by
  refine wpIn_rangeFunc fun fn hfn => ?_
  rw [hro]
  generalize hD : w.heap.size = D
  generalize hr : recOf fn a.tmps ps assign body D = rec
  generalize hW : (w.alloc (.deferred (some []))).alloc (.loop (rec .ready none)) = W0
  have hsz : W0.heap.size = D + 2 := by rw [← hW]; simp [hD]
  have hl0 : W0.heap[D + 1]? = some (.loop (rec .ready none)) := by
    rw [← hW, ← hD]
    have := World.alloc_heap_new (w.alloc (.deferred (some []))) (.loop (rec .ready none))
    rwa [World.size_alloc] at this
  have hd0 : W0.heap[D]? = some (.deferred (some [])) := by
    rw [← hW, ← hD]
    exact (Below.heap_alloc _ _ _ (by simp)).trans (World.alloc_heap_new w _)
  have hb1 : Below w0.heap.size w0 W0 := by
    rw [← hW]
    exact hb0.trans ((((Below.refl _ w).alloc (Nat.le_refl _) _).alloc (by simp) _).mono hb0.size)
  have hI0 : ∀ hi, I hi [] W0 := fun hi => by rw [← hW]; exact (hI hi).alloc _ ((hI hi).alloc _ (h0 hi))
  rw [hD] at hI hIx hbody hdone hstop
  refine ⟨D + 1, [{ target := .collected D, args := #[] }], W0, { target := .fn (.func gf) lb, args := #[.func (.yield (D + 1)) #[] #[]] }, W0, gf,
    #[.func (.yield (D + 1)) #[] #[]] ++ lb, W0, ?_, ?_, ?_, ?_, fun _ => h1, ?_⟩
  · rw [← hW, ← hr, ← hD]
    exact run_enterLoop_outer ..
  · simp only [resolve, hg]
    simp [go_sem]
  · intro f' hf'
    simp [Target.leads] at hf'
    subst hf'
    exact hFg
  · simp [invoke, go_sem, eg]
  have hno : ∀ {A B : World} {row : Option Nat}, A.grownBy B row → (∀ r, row = some r → W0.heap.size ≤ r ∧ ∃ o : Obj, A.heap[r]? = some o ∧ o.isCells = false) →
      (∀ r, row = some r → D ≤ r ∧ ∃ o : Obj, A.heap[r]? = some o ∧ o.isCells = false) ∧ ∀ k o, k < D + 2 → A.heap[k]? = some o → B.heap[k]? = some o := fun {A B row} hg hr =>
    ⟨fun r e => ⟨by have := (hr r e).1; omega, (hr r e).2⟩, fun k o hk ho => (hg.block k (Array.getElem?_eq_some_iff.1 ho).1 (fun e => by have := (hr k e.symm).1; omega)).trans ho⟩
  refine (hseq (D + 1) (fun hi pre W => I hi pre W ∧ W.heap[D + 1]? = some (.loop (rec .ready none)) ∧ W.heap[D]? = some (.deferred (some [])))
    (fun pre W => ∃ c, Ix c pre W ∧ W.heap[D + 1]? = some (.loop (rec .done (some c))) ∧ W.heap[D]? = some (.deferred (some []))) W0 hb1
    (fun hi s A B row hs hg hr => ⟨hI hi s A B row hs.1 hg (hno hg hr).1, (hno hg hr).2 _ _ (by omega) hs.2.1, (hno hg hr).2 _ _ (by omega) hs.2.2⟩)
    (fun s A B row hs hg hr => by
      obtain ⟨c, h1, h2, h3⟩ := hs
      exact ⟨c, hIx c s A B row h1 hg (hno hg hr).1, (hno hg hr).2 _ _ (by omega) h2, (hno hg hr).2 _ _ (by omega) h3⟩)
    (fun hi pre W h => hT hi pre W h.1) ?_ (fun hi => ⟨hI0 hi, hl0, hd0⟩)).mono ?_
  · rintro h pre x W ⟨hi, hl, hd⟩ hc hlen
    rw [hsz]
    have hlt : D + 1 < W.heap.size := (Array.getElem?_eq_some_iff.1 hl).1
    subst hr
    have hl2 : (W.putObj (D + 1) (.loop (recOf fn a.tmps ps assign body D .busy none))).heap[D + 1]? = some (.loop (recOf fn a.tmps ps assign body D .busy none)) := World.putObj_heap_same hlt
    have hd2 : (W.putObj (D + 1) (.loop (recOf fn a.tmps ps assign body D .busy none))).heap[D]? = some (.deferred (some [])) := (World.putObj_heap_other (by omega)).trans hd
    have key : ∀ e a3 W3, ownPostO D (D + 2) h (I h) Ix (pre ++ [x]) (W.putObj (D + 1) (.loop (recOf fn a.tmps ps assign body D .busy none))) e a3 W3 → roundEnd (D + 1) (recOf fn a.tmps ps assign body D)
        (fun W' => KeepsFrom (D + 2) W W' ∧ KeepsIn (D + 2) h W W' ∧ I h (pre ++ [x]) W' ∧ W'.heap[D + 1]? = some (.loop (recOf fn a.tmps ps assign body D .ready none)) ∧ W'.heap[D]? = some (.deferred (some [])))
        (fun c W' => KeepsFrom (D + 2) W W' ∧ Ix c (pre ++ [x]) W' ∧ W'.heap[D + 1]? = some (.loop (recOf fn a.tmps ps assign body D .done (some c))) ∧ W'.heap[D]? = some (.deferred (some []))) e a3 W3 := by
      intro e a3 W3 hp
      have hf : ∀ (o : Loop), KeepsFrom D (W.putObj (D + 1) (.loop (recOf fn a.tmps ps assign body D .busy none))) W3 →
          W3.heap[D + 1]? = some (.loop (recOf fn a.tmps ps assign body D .busy none)) ∧ KeepsFrom (D + 2) W (W3.putObj (D + 1) (.loop o)) ∧ (W3.putObj (D + 1) (.loop o)).heap[D + 1]? = some (.loop o) ∧ (W3.putObj (D + 1) (.loop o)).heap[D]? = some (.deferred (some [])) := fun o hk => by
        have h3 := hk.same _ _ (by omega) hl2 rfl
        exact ⟨h3, ((keepsFrom_putObj (by omega) _ _).trans ⟨hk.size, fun k o hB => hk.same k o (by omega)⟩).trans (keepsFrom_putObj (by omega) _ _), World.putObj_heap_same (Array.getElem?_eq_some_iff.1 h3).1, (World.putObj_heap_other (by omega)).trans (hk.same _ _ (by omega) hd2 rfl)⟩
      cases e with
      | normal =>
        obtain ⟨g1, g2, g3, g4⟩ := hf (recOf fn a.tmps ps assign body D .ready none) hp.1
        exact ⟨g1, g2, ((keepsIn_putObj (by omega) _ _).trans hp.2.1).trans (keepsIn_putObj (by omega) _ _), (hI h).putObj _ hp.2.2 (by omega) g1 rfl, g3, g4⟩
      | ret =>
        obtain ⟨g1, g2, g3, g4⟩ := hf (recOf fn a.tmps ps assign body D .done (some .ret)) hp.1
        exact ⟨g1, g2, (hIx _).putObj _ hp.2 (by omega) g1 rfl, g3, g4⟩
      | exit id =>
        obtain ⟨g1, g2, g3, g4⟩ := hf (recOf fn a.tmps ps assign body D .done (some (.exit id))) hp.1
        exact ⟨g1, g2, (hIx _).putObj _ hp.2 (by omega) g1 rfl, g3, g4⟩
      | goto t =>
        obtain ⟨g1, g2, g3, g4⟩ := hf (recOf fn a.tmps ps assign body D .done (some (.goto t))) hp.1
        exact ⟨g1, g2, (hIx _).putObj _ hp.2 (by omega) g1 rfl, g3, g4⟩
      | panic ch => exact hp.elim
      | outgrown => exact hp.elim
    have Y := yield_of_body (F := F) (n := n - 1 - 1) (P := P) (a₁ := a₁ x)
      (RT := fun W' => KeepsFrom (D + 2) W W' ∧ KeepsIn (D + 2) h W W' ∧ I h (pre ++ [x]) W' ∧ W'.heap[D + 1]? = some (.loop (recOf fn a.tmps ps assign body D .ready none)) ∧ W'.heap[D]? = some (.deferred (some [])))
      (RF := fun c W' => KeepsFrom (D + 2) W W' ∧ Ix c (pre ++ [x]) W' ∧ W'.heap[D + 1]? = some (.loop (recOf fn a.tmps ps assign body D .done (some c))) ∧ W'.heap[D]? = some (.deferred (some [])))
      hfn hl (hps x) (fun K hK => hassign _ x W K hK) (wpIn_mono (hbody (D + 1) h pre x _ (by omega) ⟨_, hl2⟩ ((hI h).putObj _ hi (by omega) hl rfl) hlen (by simpa using hc)) key)
    obtain ⟨f, ts, ac, bd, hy, hR⟩ := Y
    refine ⟨f, ts, ac, bd, hy, hR.mono ?_⟩
    rintro e W' (⟨he, hk, hk2, hp⟩ | ⟨he, c', hk, hp⟩)
    · exact ⟨hk, .inl ⟨he, hp, hk2⟩⟩
    · exact ⟨hk, .inr ⟨he, c', hp⟩⟩
  · subst hr
    rintro e W2 ⟨⟨v, rfl⟩, (⟨h, xs, hS, hi, hl, hd⟩ | ⟨pre, hSp, c', hi, hl, hd⟩)⟩
    · exact ⟨none, _, run_endLoop hl (by simp), hdone D h xs _ (Nat.le_refl _) hS ((hI h).putObj _ hi (by omega) hl rfl) ((World.putObj_heap_other (by omega)).trans hd)⟩
    · exact ⟨some c', _, run_endLoop hl (by simp), hstop D c' pre _ (Nat.le_refl _) hSp ((hIx c').putObj _ hi (by omega) hl rfl) ((World.putObj_heap_other (by omega)).trans hd)⟩
end Go.Proofs.YtahhenbphnejiaaDoor.Bits
