/-
  The walk of a loop that ranges over a function, whose rounds lay their own value first.
-/
import Derived.Test.YtodfkklkgcoddaaDoorTold
namespace Go.Proofs.YtodfkklkgcoddaaDoor
open Go Go.RowKit Go.Shelf
section
variable {F : Fence} {n : Nat} {P : Program}

theorem yield_of_bodyA {l : Nat} {fn : FuncId} {tmps : Array Value} {ps : Array Tmp} {assign body : Code} {ds : Nat} {W W1 : World} {xs : Array Value} {a₁ : Act} {RT : World → Prop} {RF : Code → World → Prop}
    (hfn : F.fn fn) (hl : W.heap[l]? = some (.loop (recOf fn tmps ps assign body ds .ready none))) (hps : xs.size = ps.size)
    (hl1 : W1.heap[l]? = some (.loop (recOf fn tmps ps assign body ds .ready none)))
    (hassign : ∀ K : Act → World → Prop, K a₁ W1 → assign.wpIn (F.inRound l) n P (Exit.then K (fun _ _ _ => False)) { tmps := (ps.zip xs).foldl (fun t (p, v) => t.setIfInBounds p v) tmps, defers := [] } W)
    (hbody : body.wpIn (F.inRound l) n P (roundEnd l (recOf fn tmps ps assign body ds) RT RF) a₁ (W1.putObj l (.loop (recOf fn tmps ps assign body ds .busy none)))) :
    YieldAt F n P l xs W fun e W' => (e = .returned (.bool true) ∧ RT W') ∨ (e = .returned (.bool false) ∧ ∃ c, RF c W') := by
  refine ⟨fn, _, assign, body, run_yield hl hps, roundIn_of_wpIn hfn (hassign _ ⟨_, run_beginRound hl1 rfl, wpIn_mono hbody ?_⟩)⟩
  intro e a W3 h
  cases e with
  | normal => exact ⟨_, _, run_endRound none h.1, .inl ⟨rfl, h.2⟩⟩
  | ret => exact ⟨_, _, run_endRound _ h.1, .inr ⟨rfl, _, h.2⟩⟩
  | exit id => exact ⟨_, _, run_endRound _ h.1, .inr ⟨rfl, _, h.2⟩⟩
  | goto t => exact ⟨_, _, run_endRound _ h.1, .inr ⟨rfl, _, h.2⟩⟩
  | panic ch => exact h.elim
  | outgrown => exact h.elim


theorem wpIn_rangeFunc_toldA {g : Operand} {ps : Array Tmp} {assign body : Code} {Q : Exit → Act → World → Prop} {a : Act} {w : World}
    (hro : F.round = none) (h1 : 1 ≤ n) {gf : Nat} {lb : Array Value} (hg : a.eval g = .func (.func gf) #[] lb) (hFg : F.fn gf) (eg : ∀ args w, (callFunc gf args).run P w = .ok (.enter gf args) w)
    {N : Nat} {encs : Nat → Array Value} {T : World → Prop} {w0 : World} (hseq : SeqTold F (n - 1) P gf lb N encs T w0)
    (hb0 : Below w0.heap.size w0 w) (hps : ∀ i, (encs i).size = ps.size)
    (I : (Nat → Prop) → Nat → World → Prop) (Ix : Code → (Nat → Prop) → Nat → World → Prop) (hI : Stab w.heap.size I) (hIx : ∀ c, Stab w.heap.size (Ix c)) (hT : ∀ O i W, I O i W → T W)
    (h0 : ∃ O, I O 0 w ∧ ∀ k, O k → k < w.heap.size) (gW : Nat → World → World) (hgW : ∀ i W, Below W.heap.size W (gW i W)) (a₁ : Nat → World → Act)
    (hassign : ∀ (l i : Nat) (W : World) (K : Act → World → Prop), i < N → K (a₁ i W) (gW i W) →
      assign.wpIn (F.inRound l) (n - 1 - 1) P (Exit.then K (fun _ _ _ => False)) { tmps := (ps.zip (encs i)).foldl (fun t (p, v) => t.setIfInBounds p v) a.tmps, defers := [] } W)
    (hbody : ∀ (l : Nat) (O : Nat → Prop) (i : Nat) (W : World) (r : Loop), w.heap.size ≤ l → l < W.heap.size → i < N → I O i W → (∀ k, O k → k < W.heap.size) → w.heap.size + 2 ≤ W.heap.size → ¬ O l →
      body.wpIn (F.inRound l) (n - 1 - 1) P (toldPost w.heap.size I Ix O i ((gW i W).putObj l (.loop r))) (a₁ i W) ((gW i W).putObj l (.loop r)))
    (hdone : ∀ (D : Nat) (O : Nat → Prop) (W : World), w.heap.size ≤ D → I O N W → ¬ O D → (∀ k, O k → k < W.heap.size) → W.heap[D]? = some (.deferred (some [])) → Q .normal { a with defers := { target := .collected D, args := #[] } :: a.defers } W)
    (hstop : ∀ (D : Nat) (c : Code) (O : Nat → Prop) (i : Nat) (W : World), w.heap.size ≤ D → i < N → Ix c O (i + 1) W → ¬ O D → (∀ k, O k → k < W.heap.size) → W.heap[D]? = some (.deferred (some [])) → c.wpIn F n P Q { a with defers := { target := .collected D, args := #[] } :: a.defers } W) :
    (Code.rangeFunc g ps assign body).wpIn F n P Q a w := by
  refine wpIn_rangeFunc fun fn hfn => ?_
  rw [hro]
  generalize hD : w.heap.size = D
  generalize hr : recOf fn a.tmps ps assign body D = rec
  generalize hW : (w.alloc (.deferred (some []))).alloc (.loop (rec .ready none)) = W0
  have hsz : W0.heap.size = D + 2 := by rw [← hW]; simp [hD]
  have hl0 : W0.heap[D + 1]? = some (.loop (rec .ready none)) := by
    rw [← hW, ← hD]
    have := World.alloc_heap_new (w.alloc (.deferred (some []))) (.loop (rec .ready none))
    rwa [World.size_alloc] at this
  have hd0 : W0.heap[D]? = some (.deferred (some [])) := by
    rw [← hW, ← hD]
    exact (Below.heap_alloc _ _ _ (by simp)).trans (World.alloc_heap_new w _)
  have hbw : Below w.heap.size w W0 := by
    rw [← hW]
    exact ((Below.refl _ w).alloc (Nat.le_refl _) _).alloc (by simp) _
  have hb1 : Below w0.heap.size w0 W0 := hb0.trans (hbw.mono hb0.size)
  obtain ⟨O0, hI0, hO0⟩ := h0
  have hI1 : I O0 0 W0 := hI.alloc hI0 hO0 (Nat.le_refl _) hbw
  rw [hD] at hI hIx hbody hdone hstop hO0
  refine ⟨D + 1, [{ target := .collected D, args := #[] }], W0, { target := .fn (.func gf) lb, args := #[.func (.yield (D + 1)) #[] #[]] }, W0, gf,
    #[.func (.yield (D + 1)) #[] #[]] ++ lb, W0, ?_, ?_, ?_, ?_, fun _ => h1, ?_⟩
  · rw [← hW, ← hr, ← hD]
    exact run_enterLoop_outer ..
  · simp only [resolve, hg]
    simp [go_sem]
  · intro f' hf'
    simp [Target.leads] at hf'
    subst hf'
    exact hFg
  · simp [invoke, go_sem, eg]
  refine (hseq (D + 1) (fun O i W => I O i W ∧ W.heap[D + 1]? = some (.loop (rec .ready none)) ∧ W.heap[D]? = some (.deferred (some [])) ∧ ¬ O D ∧ ¬ O (D + 1))
    (fun O i W => ∃ c, Ix c O i W ∧ W.heap[D + 1]? = some (.loop (rec .done (some c))) ∧ W.heap[D]? = some (.deferred (some [])) ∧ ¬ O D ∧ ¬ O (D + 1)) W0 hb1
    (fun O i X Y hs hb hk => ⟨hI O i X Y hs.1 (hb.mono (by omega)) hk, (hb.block _ (by omega)).trans hs.2.1, (hb.block _ (by omega)).trans hs.2.2.1, hs.2.2.2⟩)
    (fun O i X Y hs hb hk => by
      obtain ⟨c, h1, h2, h3, h4⟩ := hs
      exact ⟨c, hIx c O i X Y h1 (hb.mono (by omega)) hk, (hb.block _ (by omega)).trans h2, (hb.block _ (by omega)).trans h3, h4⟩)
    (fun O i W h => hT O i W h.1) ?_ ⟨O0, ⟨hI1, hl0, hd0, fun h => by have := hO0 _ h; omega, fun h => by have := hO0 _ h; omega⟩, fun k hk => by have := hO0 k hk; omega⟩).mono ?_
  · rintro O i W hi ⟨hii, hl, hd, hn0, hn1⟩ hlt hsW
    rw [hsz] at hsW ⊢
    subst hr
    have hgb := hgW i W
    have hlg : (gW i W).heap[D + 1]? = some (.loop (recOf fn a.tmps ps assign body D .ready none)) := (hgb.block _ (by omega)).trans hl
    have hl2 : ((gW i W).putObj (D + 1) (.loop (recOf fn a.tmps ps assign body D .busy none))).heap[D + 1]? = some (.loop (recOf fn a.tmps ps assign body D .busy none)) := World.putObj_heap_same (by have := hgb.size; omega)
    have hd2 : ((gW i W).putObj (D + 1) (.loop (recOf fn a.tmps ps assign body D .busy none))).heap[D]? = some (.deferred (some [])) := (World.putObj_heap_other (by omega)).trans ((hgb.block _ (by omega)).trans hd)
    have key : ∀ e a3 W3, toldPost D I Ix O i ((gW i W).putObj (D + 1) (.loop (recOf fn a.tmps ps assign body D .busy none))) e a3 W3 → roundEnd (D + 1) (recOf fn a.tmps ps assign body D)
        (fun W' => ∃ O', Turn (D + 2) O O' W W' ∧ I O' (i + 1) W' ∧ W'.heap[D + 1]? = some (.loop (recOf fn a.tmps ps assign body D .ready none)) ∧ W'.heap[D]? = some (.deferred (some [])) ∧ ¬ O' D ∧ ¬ O' (D + 1))
        (fun c W' => ∃ O', Turn (D + 2) O O' W W' ∧ Ix c O' (i + 1) W' ∧ W'.heap[D + 1]? = some (.loop (recOf fn a.tmps ps assign body D .done (some c))) ∧ W'.heap[D]? = some (.deferred (some [])) ∧ ¬ O' D ∧ ¬ O' (D + 1)) e a3 W3 := by
      intro e a3 W3 hp
      have hf : ∀ (o : Loop) (O' : Nat → Prop), Turn D O O' ((gW i W).putObj (D + 1) (.loop (recOf fn a.tmps ps assign body D .busy none))) W3 →
          W3.heap[D + 1]? = some (.loop (recOf fn a.tmps ps assign body D .busy none)) ∧ Turn (D + 2) O O' W (W3.putObj (D + 1) (.loop o)) ∧ (W3.putObj (D + 1) (.loop o)).heap[D + 1]? = some (.loop o) ∧ (W3.putObj (D + 1) (.loop o)).heap[D]? = some (.deferred (some [])) ∧ ¬ O' D ∧ ¬ O' (D + 1) := fun o O' hk => by
        have hs0 : ((gW i W).putObj (D + 1) (.loop (recOf fn a.tmps ps assign body D .busy none))).heap.size = (gW i W).heap.size := by simp
        have hs9 := hgb.size
        have h3 := (hk.keep (D + 1) (by omega) (by omega) hn1).trans hl2
        refine ⟨h3, ⟨by have := hk.size; simp at this ⊢; omega, fun k h1 h2 h4 => ?_, fun k hk' => (hk.grow k hk').imp id (fun h => by rw [hs0] at h; omega), fun k hk' => by have := hk.lt k hk'; simpa using this⟩, World.putObj_heap_same (Array.getElem?_eq_some_iff.1 h3).1,
          (World.putObj_heap_other (by omega)).trans ((hk.keep D (Nat.le_refl _) (by omega) hn0).trans hd2), fun h => (hk.grow _ h).elim hn0 (by omega), fun h => (hk.grow _ h).elim hn1 (by omega)⟩
        exact (World.putObj_heap_other (by omega)).trans ((hk.keep k (by omega) (by omega) h4).trans ((World.putObj_heap_other (by omega)).trans (hgb.block k h2)))
      cases e with
      | normal =>
        obtain ⟨O', ht, hx⟩ := hp
        obtain ⟨g1, g2, g3, g4, g5, g6⟩ := hf (recOf fn a.tmps ps assign body D .ready none) O' ht
        exact ⟨g1, O', g2, hI.putObj hx (by omega) g6 _, g3, g4, g5, g6⟩
      | ret =>
        obtain ⟨O', ht, hx⟩ := hp
        obtain ⟨g1, g2, g3, g4, g5, g6⟩ := hf (recOf fn a.tmps ps assign body D .done (some .ret)) O' ht
        exact ⟨g1, O', g2, (hIx _).putObj hx (by omega) g6 _, g3, g4, g5, g6⟩
      | exit id =>
        obtain ⟨O', ht, hx⟩ := hp
        obtain ⟨g1, g2, g3, g4, g5, g6⟩ := hf (recOf fn a.tmps ps assign body D .done (some (.exit id))) O' ht
        exact ⟨g1, O', g2, (hIx _).putObj hx (by omega) g6 _, g3, g4, g5, g6⟩
      | goto t =>
        obtain ⟨O', ht, hx⟩ := hp
        obtain ⟨g1, g2, g3, g4, g5, g6⟩ := hf (recOf fn a.tmps ps assign body D .done (some (.goto t))) O' ht
        exact ⟨g1, O', g2, (hIx _).putObj hx (by omega) g6 _, g3, g4, g5, g6⟩
      | panic ch => exact hp.elim
      | outgrown => exact hp.elim
    have Y := yield_of_bodyA (F := F) (n := n - 1 - 1) (P := P) (a₁ := a₁ i W) (W1 := gW i W)
      (RT := fun W' => ∃ O', Turn (D + 2) O O' W W' ∧ I O' (i + 1) W' ∧ W'.heap[D + 1]? = some (.loop (recOf fn a.tmps ps assign body D .ready none)) ∧ W'.heap[D]? = some (.deferred (some [])) ∧ ¬ O' D ∧ ¬ O' (D + 1))
      (RF := fun c W' => ∃ O', Turn (D + 2) O O' W W' ∧ Ix c O' (i + 1) W' ∧ W'.heap[D + 1]? = some (.loop (recOf fn a.tmps ps assign body D .done (some c))) ∧ W'.heap[D]? = some (.deferred (some [])) ∧ ¬ O' D ∧ ¬ O' (D + 1))
      hfn hl (hps i) hlg (fun K hK => hassign _ i W K hi hK)
      (wpIn_mono (hbody (D + 1) O i W _ (by omega) (by omega) hi hii hlt (by omega) hn1) key)
    obtain ⟨f, ts, ac, bd, hy, hR⟩ := Y
    refine ⟨f, ts, ac, bd, hy, hR.mono ?_⟩
    rintro e W' (⟨he, O', ht, hp⟩ | ⟨he, c', O', ht, hp⟩)
    · exact ⟨O', ht, .inl ⟨he, hp⟩⟩
    · exact ⟨O', ht, .inr ⟨he, c', hp⟩⟩
  · subst hr
    rintro e W2 ⟨⟨v, rfl⟩, O, hlt, hs2, (⟨hi, hl, hd, hn0, hn1⟩ | ⟨i, hiN, c', hi, hl, hd, hn0, hn1⟩)⟩
    · exact ⟨none, _, run_endLoop hl (by simp), hdone D O _ (Nat.le_refl _) (hI.putObj hi (by omega) hn1 _) hn0 (fun k hk => by simpa using hlt k hk) ((World.putObj_heap_other (by omega)).trans hd)⟩
    · exact ⟨some c', _, run_endLoop hl (by simp), hstop D c' O i _ (Nat.le_refl _) hiN ((hIx c').putObj hi (by omega) hn1 _) hn0 (fun k hk => by simpa using hlt k hk) ((World.putObj_heap_other (by omega)).trans hd)⟩
end
end Go.Proofs.YtodfkklkgcoddaaDoor
