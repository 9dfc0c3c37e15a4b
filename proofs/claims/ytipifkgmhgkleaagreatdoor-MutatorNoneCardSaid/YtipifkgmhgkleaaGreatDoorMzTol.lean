/-
  Base texts, one behind the other: Told StartsT.
-/
import Derived.Test.YtipifkgmhgkleaaGreatDoorMzBa
import Derived.RangeFuncNested
import Derived.RangeFuncBound
import Derived.RangeFuncCalls
import Derived.RangeFuncLeaves
import Derived.Shelf.Abstract
import Derived.OwnWalkIn
import Derived.TacticsInMore
import Derived.LoopNIn
import Derived.LoopIn
import Derived.Lib.Hide
namespace Go.Proofs.YtipifkgmhgkleaaGreatDoor
open Go Go.RowKit Go.Shelf
section
variable {F : Fence} {n : Nat} {P : Program}

/-- How a round's body may be left: the record is busy still; what is asked holds once it is turned. -/
def roundEnd (l : Nat) (rec : LoopState → Option Code → Loop) (RT : World → Prop) (RF : Code → World → Prop) : Exit → Act → World → Prop
  | .normal, _, W => W.heap[l]? = some (.loop (rec .busy none)) ∧ RT (W.putObj l (.loop (rec .ready none)))
  | .ret, _, W => W.heap[l]? = some (.loop (rec .busy none)) ∧ RF .ret (W.putObj l (.loop (rec .done (some .ret))))
  | .exit id, _, W => W.heap[l]? = some (.loop (rec .busy none)) ∧ RF (.exit id) (W.putObj l (.loop (rec .done (some (.exit id)))))
  | .goto t, _, W => W.heap[l]? = some (.loop (rec .busy none)) ∧ RF (.goto t) (W.putObj l (.loop (rec .done (some (.goto t)))))
  | .panic _, _, _ => False
  | .outgrown, _, _ => False

/-- The record of a loop. -/
abbrev recOf (fn : FuncId) (tmps : Array Value) (ps : Array Tmp) (assign body : Code) (ds : Nat) (st : LoopState) (pe : Option Code) : Loop :=
  { state := st, pending := pe, fn, tmps, params := ps, assign, body, defers := ds }

theorem yield_of_body {l : Nat} {fn : FuncId} {tmps : Array Value} {ps : Array Tmp} {assign body : Code} {ds : Nat} {W : World} {xs : Array Value} {a₁ : Act} {RT : World → Prop} {RF : Code → World → Prop}
    (hfn : F.fn fn) (hl : W.heap[l]? = some (.loop (recOf fn tmps ps assign body ds .ready none))) (hps : xs.size = ps.size)
    (hassign : ∀ K : Act → World → Prop, K a₁ W → assign.wpIn (F.inRound l) n P (Exit.then K (fun _ _ _ => False)) { tmps := (ps.zip xs).foldl (fun t (p, v) => t.setIfInBounds p v) tmps, defers := [] } W)
    (hbody : body.wpIn (F.inRound l) n P (roundEnd l (recOf fn tmps ps assign body ds) RT RF) a₁ (W.putObj l (.loop (recOf fn tmps ps assign body ds .busy none)))) :
    YieldAt F n P l xs W fun e W' => (e = .returned (.bool true) ∧ RT W') ∨ (e = .returned (.bool false) ∧ ∃ c, RF c W') := by
  refine ⟨fn, _, assign, body, run_yield hl hps, roundIn_of_wpIn hfn (hassign _ ⟨_, run_beginRound hl rfl, wpIn_mono hbody ?_⟩)⟩
  intro e a W3 h
  cases e with
  | normal => exact ⟨_, _, run_endRound none h.1, .inl ⟨rfl, h.2⟩⟩
  | ret => exact ⟨_, _, run_endRound _ h.1, .inr ⟨rfl, _, h.2⟩⟩
  | exit id => exact ⟨_, _, run_endRound _ h.1, .inr ⟨rfl, _, h.2⟩⟩
  | goto t => exact ⟨_, _, run_endRound _ h.1, .inr ⟨rfl, _, h.2⟩⟩
  | panic ch => exact h.elim
  | outgrown => exact h.elim

/-- What a round may turn from a bound on: blocks that are its caller's own, and new ones. -/
structure Turn (B : Nat) (O O' : Nat → Prop) (W W' : World) : Prop where
  size : W.heap.size ≤ W'.heap.size
  keep : ∀ k, B ≤ k → k < W.heap.size → ¬ O k → W'.heap[k]? = W.heap[k]?
  grow : ∀ k, O' k → O k ∨ W.heap.size ≤ k
  lt : ∀ k, O' k → k < W'.heap.size
theorem Turn.trans {B : Nat} {O O' O'' : Nat → Prop} {X Y Z : World} (h : Turn B O O' X Y) (k : Turn B O' O'' Y Z) : Turn B O O'' X Z :=
  ⟨Nat.le_trans h.size k.size, fun i h1 h2 h3 => (k.keep i h1 (Nat.lt_of_lt_of_le h2 h.size) (fun h4 => (h.grow i h4).elim h3 (by omega))).trans (h.keep i h1 h2 h3),
   fun i hi => (k.grow i hi).elim (h.grow i) (fun h5 => .inr (Nat.le_trans h.size h5)), k.lt⟩
theorem Turn.mono {B B' : Nat} {O O' : Nat → Prop} {X Y : World} (h : Turn B O O' X Y) (hB : B ≤ B') : Turn B' O O' X Y := ⟨h.size, fun i h1 => h.keep i (Nat.le_trans hB h1), h.grow, h.lt⟩
/-- What leaves all but new blocks as it was. -/
theorem Turn.of_below {B : Nat} {O : Nat → Prop} {X Y : World} (hlt : ∀ k, O k → k < X.heap.size) (h : Below X.heap.size X Y) : Turn B O O X Y :=
  ⟨h.size, fun i _ h2 _ => h.block i h2, fun _ hk => .inl hk, fun i hk => Nat.lt_of_lt_of_le (hlt i hk) h.size⟩
theorem Turn.cell {B : Nat} {O O' : Nat → Prop} {X Y : World} (h : Turn B O O' X Y) {p : Addr} (h1 : B ≤ p.block) (h2 : p.block < X.heap.size) (h3 : ¬ O p.block) : Y.cell? p = X.cell? p :=
  World.cell?_of_block (h.keep p.block h1 h2 h3)
theorem Turn.boxed {B b : Nat} {O O' : Nat → Prop} {X Y : World} {t : TypeId} {v : Value} (h : Turn B O O' X Y) (hb : Boxed X b t v) (h1 : B ≤ b) (h3 : ¬ O b) : Boxed Y b t v :=
  (h.keep b h1 hb.lt h3).trans hb

theorem boxed_new {W : World} {B : Nat} {t : TypeId} {v : Value} (h : B = W.heap.size) : Boxed (W.alloc (.cells #[v] t)) B t v := by rw [h]; exact Boxed.new W t v
theorem Boxed.below {W W' : World} {B N : Nat} {t : TypeId} {v : Value} (h : Boxed W B t v) (hb : Below N W W') (hB : B < N) : Boxed W' B t v := (hb.block B hB).trans h

/-- A fact that hangs on what lies below a bound, and on what is its holder's own. -/
def Stab (B : Nat) (J : (Nat → Prop) → Nat → World → Prop) : Prop := ∀ O i X Y, J O i X → Below B X Y → (∀ k, O k → Y.heap[k]? = X.heap[k]?) → J O i Y
theorem Stab.mono {B B' : Nat} {J : (Nat → Prop) → Nat → World → Prop} (h : Stab B J) (hB : B ≤ B') : Stab B' J := fun O i X Y hj hb hk => h O i X Y hj (hb.mono hB) hk
theorem Stab.alloc {B : Nat} {J : (Nat → Prop) → Nat → World → Prop} (h : Stab B J) {O : Nat → Prop} {i : Nat} {X Y : World} (hj : J O i X) (hlt : ∀ k, O k → k < X.heap.size) (hB : B ≤ X.heap.size) (hb : Below X.heap.size X Y) : J O i Y :=
  h O i X Y hj (hb.mono hB) (fun k hk => hb.block k (hlt k hk))
theorem below_putObj {B l : Nat} (h : B ≤ l) (W : World) (o : Obj) : Below B W (W.putObj l o) := ⟨rfl, rfl, rfl, by simp, fun k hk => World.putObj_heap_other (by omega)⟩
theorem Stab.putObj {B l : Nat} {J : (Nat → Prop) → Nat → World → Prop} (h : Stab B J) {O : Nat → Prop} {i : Nat} {X : World} (hj : J O i X) (hB : B ≤ l) (hl : ¬ O l) (o : Obj) : J O i (X.putObj l o) :=
  h O i X _ hj (below_putObj hB X o) (fun _ hk => World.putObj_heap_other (fun e => hl (e ▸ hk)))

/-- AN ITERATOR THAT TELLS encs 0, encs 1, .. encs (N - 1), in that order, from whatever world later than w. It may lay what it likes, ahead of its rounds and between them, and turn that; it turns nothing that lay ahead, and nothing that is its caller's own. What it wants of each round's world is T. -/
def SeqTold (F : Fence) (n : Nat) (P : Program) (g : Nat) (lb : Array Value) (N : Nat) (encs : Nat → Array Value) (T : World → Prop) (w : World) : Prop :=
  ∀ (l : Nat) (J Jx : (Nat → Prop) → Nat → World → Prop) (W : World), Below w.heap.size w W → Stab W.heap.size J → Stab W.heap.size Jx → (∀ O i W1, J O i W1 → T W1) →
    (∀ O i W1, i < N → J O i W1 → (∀ k, O k → k < W1.heap.size) → W.heap.size ≤ W1.heap.size → YieldAt F (n - 1) P l (encs i) W1 fun e W' => ∃ O', Turn W.heap.size O O' W1 W' ∧
      ((e = .returned (.bool true) ∧ J O' (i + 1) W') ∨ (e = .returned (.bool false) ∧ Jx O' (i + 1) W'))) →
    (∃ O, J O 0 W ∧ ∀ k, O k → k < W.heap.size) →
    CallsIn F n P g (#[.func (.yield l) #[] #[]] ++ lb) W fun e W' => (∃ v, e = .returned v) ∧ ∃ O, (∀ k, O k → k < W'.heap.size) ∧ W.heap.size ≤ W'.heap.size ∧ (J O N W' ∨ ∃ i, i < N ∧ Jx O (i + 1) W')

theorem yieldAt_any {m l : Nat} {args : Array Value} {W : World} {R : Ending → World → Prop} (h : YieldAt Fence.wide n P l args W R) : YieldAt Fence.wide m P l args W R := by
  obtain ⟨fn, tmps, asg, bdy, hy, hf, hr⟩ := h
  exact ⟨fn, tmps, asg, bdy, hy, hf, fun c cs _ => hr c cs (room_wide _)⟩
theorem SeqTold.any {m g N : Nat} {lb : Array Value} {encs : Nat → Array Value} {T : World → Prop} {w : World} (h : SeqTold Fence.wide n P g lb N encs T w) : SeqTold Fence.wide m P g lb N encs T w :=
  fun l J Jx W hW hJ hJx hT hY h0 => callsIn_wide.2 (callsIn_wide.1 (h l J Jx W hW hJ hJx hT (fun O i W1 hi hj ho hs => yieldAt_any (hY O i W1 hi hj ho hs)) h0))
theorem SeqTold.later {g N : Nat} {lb : Array Value} {encs : Nat → Array Value} {T : World → Prop} {w w' : World} (h : SeqTold F n P g lb N encs T w) (hb : Below w.heap.size w w') : SeqTold F n P g lb N encs T w' :=
  fun l J Jx W hW => h l J Jx W (hb.trans (hW.mono hb.size))

/-- How a body may be left. -/
def toldPost (B : Nat) (I : (Nat → Prop) → Nat → World → Prop) (Ix : Code → (Nat → Prop) → Nat → World → Prop) (O : Nat → Prop) (i : Nat) (W : World) : Exit → Act → World → Prop
  | .normal, _, W' => ∃ O', Turn B O O' W W' ∧ I O' (i + 1) W'
  | .ret, _, W' => ∃ O', Turn B O O' W W' ∧ Ix .ret O' (i + 1) W'
  | .exit id, _, W' => ∃ O', Turn B O O' W W' ∧ Ix (.exit id) O' (i + 1) W'
  | .goto t, _, W' => ∃ O', Turn B O O' W W' ∧ Ix (.goto t) O' (i + 1) W'
  | .panic _, _, _ => False
  | .outgrown, _, _ => False

theorem wpIn_rangeFunc_told {g : Operand} {ps : Array Tmp} {assign body : Code} {Q : Exit → Act → World → Prop} {a : Act} {w : World}
    (hro : F.round = none) (h1 : 1 ≤ n) {gf : Nat} {lb : Array Value} (hg : a.eval g = .func (.func gf) #[] lb) (hFg : F.fn gf) (eg : ∀ args w, (callFunc gf args).run P w = .ok (.enter gf args) w)
    {N : Nat} {encs : Nat → Array Value} {T : World → Prop} {w0 : World} (hseq : SeqTold F (n - 1) P gf lb N encs T w0)
    (hb0 : Below w0.heap.size w0 w) (hps : ∀ i, (encs i).size = ps.size)
    (I : (Nat → Prop) → Nat → World → Prop) (Ix : Code → (Nat → Prop) → Nat → World → Prop) (hI : Stab w.heap.size I) (hIx : ∀ c, Stab w.heap.size (Ix c)) (hT : ∀ O i W, I O i W → T W)
    (h0 : ∃ O, I O 0 w ∧ ∀ k, O k → k < w.heap.size) (a₁ : Nat → Act)
    (hassign : ∀ (l i : Nat) (W : World) (K : Act → World → Prop), i < N → K (a₁ i) W →
      assign.wpIn (F.inRound l) (n - 1 - 1) P (Exit.then K (fun _ _ _ => False)) { tmps := (ps.zip (encs i)).foldl (fun t (p, v) => t.setIfInBounds p v) a.tmps, defers := [] } W)
    (hbody : ∀ (l : Nat) (O : Nat → Prop) (i : Nat) (W : World), w.heap.size ≤ l → (∃ r, W.heap[l]? = some (.loop r)) → i < N → I O i W → (∀ k, O k → k < W.heap.size) → w.heap.size + 2 ≤ W.heap.size →
      body.wpIn (F.inRound l) (n - 1 - 1) P (toldPost w.heap.size I Ix O i W) (a₁ i) W)
    (hdone : ∀ (D : Nat) (O : Nat → Prop) (W : World), w.heap.size ≤ D → I O N W → ¬ O D → (∀ k, O k → k < W.heap.size) → W.heap[D]? = some (.deferred (some [])) → Q .normal { a with defers := { target := .collected D, args := #[] } :: a.defers } W)
    (hstop : ∀ (D : Nat) (c : Code) (O : Nat → Prop) (i : Nat) (W : World), w.heap.size ≤ D → i < N → Ix c O (i + 1) W → ¬ O D → (∀ k, O k → k < W.heap.size) → W.heap[D]? = some (.deferred (some [])) → c.wpIn F n P Q { a with defers := { target := .collected D, args := #[] } :: a.defers } W) :
    (Code.rangeFunc g ps assign body).wpIn F n P Q a w := by
  refine wpIn_rangeFunc fun fn hfn => ?_
  rw [hro]
  generalize hD : w.heap.size = D
  generalize hr : recOf fn a.tmps ps assign body D = rec
  generalize hW : (w.alloc (.deferred (some []))).alloc (.loop (rec .ready none)) = W0
  have hsz : W0.heap.size = D + 2 := by rw [← hW]; simp [hD]
  have hl0 : W0.heap[D + 1]? = some (.loop (rec .ready none)) := by
    rw [← hW, ← hD]
    have := World.alloc_heap_new (w.alloc (.deferred (some []))) (.loop (rec .ready none))
    rwa [World.size_alloc] at this
  have hd0 : W0.heap[D]? = some (.deferred (some [])) := by
    rw [← hW, ← hD]
    exact (Below.heap_alloc _ _ _ (by simp)).trans (World.alloc_heap_new w _)
  have hbw : Below w.heap.size w W0 := by
    rw [← hW]
    exact ((Below.refl _ w).alloc (Nat.le_refl _) _).alloc (by simp) _
  have hb1 : Below w0.heap.size w0 W0 := hb0.trans (hbw.mono hb0.size)
  obtain ⟨O0, hI0, hO0⟩ := h0
  have hI1 : I O0 0 W0 := hI.alloc hI0 hO0 (Nat.le_refl _) hbw
  rw [hD] at hI hIx hbody hdone hstop hO0
  refine ⟨D + 1, [{ target := .collected D, args := #[] }], W0, { target := .fn (.func gf) lb, args := #[.func (.yield (D + 1)) #[] #[]] }, W0, gf,
    #[.func (.yield (D + 1)) #[] #[]] ++ lb, W0, ?_, ?_, ?_, ?_, fun _ => h1, ?_⟩
  · rw [← hW, ← hr, ← hD]
    exact run_enterLoop_outer ..
  · simp only [resolve, hg]
    simp [go_sem]
  · intro f' hf'
    simp [Target.leads] at hf'
    subst hf'
    exact hFg
  · simp [invoke, go_sem, eg]
  refine (hseq (D + 1) (fun O i W => I O i W ∧ W.heap[D + 1]? = some (.loop (rec .ready none)) ∧ W.heap[D]? = some (.deferred (some [])) ∧ ¬ O D ∧ ¬ O (D + 1))
    (fun O i W => ∃ c, Ix c O i W ∧ W.heap[D + 1]? = some (.loop (rec .done (some c))) ∧ W.heap[D]? = some (.deferred (some [])) ∧ ¬ O D ∧ ¬ O (D + 1)) W0 hb1
    (fun O i X Y hs hb hk => ⟨hI O i X Y hs.1 (hb.mono (by omega)) hk, (hb.block _ (by omega)).trans hs.2.1, (hb.block _ (by omega)).trans hs.2.2.1, hs.2.2.2⟩)
    (fun O i X Y hs hb hk => by
      obtain ⟨c, h1, h2, h3, h4⟩ := hs
      exact ⟨c, hIx c O i X Y h1 (hb.mono (by omega)) hk, (hb.block _ (by omega)).trans h2, (hb.block _ (by omega)).trans h3, h4⟩)
    (fun O i W h => hT O i W h.1) ?_ ⟨O0, ⟨hI1, hl0, hd0, fun h => by have := hO0 _ h; omega, fun h => by have := hO0 _ h; omega⟩, fun k hk => by have := hO0 k hk; omega⟩).mono ?_
  · rintro O i W hi ⟨hii, hl, hd, hn0, hn1⟩ hlt hsW
    rw [hsz] at hsW ⊢
    subst hr
    have hl2 : (W.putObj (D + 1) (.loop (recOf fn a.tmps ps assign body D .busy none))).heap[D + 1]? = some (.loop (recOf fn a.tmps ps assign body D .busy none)) := World.putObj_heap_same (by omega)
    have hd2 : (W.putObj (D + 1) (.loop (recOf fn a.tmps ps assign body D .busy none))).heap[D]? = some (.deferred (some [])) := (World.putObj_heap_other (by omega)).trans hd
    have key : ∀ e a3 W3, toldPost D I Ix O i (W.putObj (D + 1) (.loop (recOf fn a.tmps ps assign body D .busy none))) e a3 W3 → roundEnd (D + 1) (recOf fn a.tmps ps assign body D)
        (fun W' => ∃ O', Turn (D + 2) O O' W W' ∧ I O' (i + 1) W' ∧ W'.heap[D + 1]? = some (.loop (recOf fn a.tmps ps assign body D .ready none)) ∧ W'.heap[D]? = some (.deferred (some [])) ∧ ¬ O' D ∧ ¬ O' (D + 1))
        (fun c W' => ∃ O', Turn (D + 2) O O' W W' ∧ Ix c O' (i + 1) W' ∧ W'.heap[D + 1]? = some (.loop (recOf fn a.tmps ps assign body D .done (some c))) ∧ W'.heap[D]? = some (.deferred (some [])) ∧ ¬ O' D ∧ ¬ O' (D + 1)) e a3 W3 := by
      intro e a3 W3 hp
      have hf : ∀ (o : Loop) (O' : Nat → Prop), Turn D O O' (W.putObj (D + 1) (.loop (recOf fn a.tmps ps assign body D .busy none))) W3 →
          W3.heap[D + 1]? = some (.loop (recOf fn a.tmps ps assign body D .busy none)) ∧ Turn (D + 2) O O' W (W3.putObj (D + 1) (.loop o)) ∧ (W3.putObj (D + 1) (.loop o)).heap[D + 1]? = some (.loop o) ∧ (W3.putObj (D + 1) (.loop o)).heap[D]? = some (.deferred (some [])) ∧ ¬ O' D ∧ ¬ O' (D + 1) := fun o O' hk => by
        have hs0 : (W.putObj (D + 1) (.loop (recOf fn a.tmps ps assign body D .busy none))).heap.size = W.heap.size := by simp
        have h3 := (hk.keep (D + 1) (by omega) (by omega) hn1).trans hl2
        refine ⟨h3, ⟨by have := hk.size; simp at this ⊢; omega, fun k h1 h2 h4 => ?_, fun k hk' => (hk.grow k hk').imp id (fun h => by rw [hs0] at h; exact h), fun k hk' => by have := hk.lt k hk'; simpa using this⟩, World.putObj_heap_same (Array.getElem?_eq_some_iff.1 h3).1,
          (World.putObj_heap_other (by omega)).trans ((hk.keep D (Nat.le_refl _) (by omega) hn0).trans hd2), fun h => (hk.grow _ h).elim hn0 (by omega), fun h => (hk.grow _ h).elim hn1 (by omega)⟩
        exact (World.putObj_heap_other (by omega)).trans ((hk.keep k (by omega) (by omega) h4).trans (World.putObj_heap_other (by omega)))
      cases e with
      | normal =>
        obtain ⟨O', ht, hx⟩ := hp
        obtain ⟨g1, g2, g3, g4, g5, g6⟩ := hf (recOf fn a.tmps ps assign body D .ready none) O' ht
        exact ⟨g1, O', g2, hI.putObj hx (by omega) g6 _, g3, g4, g5, g6⟩
      | ret =>
        obtain ⟨O', ht, hx⟩ := hp
        obtain ⟨g1, g2, g3, g4, g5, g6⟩ := hf (recOf fn a.tmps ps assign body D .done (some .ret)) O' ht
        exact ⟨g1, O', g2, (hIx _).putObj hx (by omega) g6 _, g3, g4, g5, g6⟩
      | exit id =>
        obtain ⟨O', ht, hx⟩ := hp
        obtain ⟨g1, g2, g3, g4, g5, g6⟩ := hf (recOf fn a.tmps ps assign body D .done (some (.exit id))) O' ht
        exact ⟨g1, O', g2, (hIx _).putObj hx (by omega) g6 _, g3, g4, g5, g6⟩
      | goto t =>
        obtain ⟨O', ht, hx⟩ := hp
        obtain ⟨g1, g2, g3, g4, g5, g6⟩ := hf (recOf fn a.tmps ps assign body D .done (some (.goto t))) O' ht
        exact ⟨g1, O', g2, (hIx _).putObj hx (by omega) g6 _, g3, g4, g5, g6⟩
      | panic ch => exact hp.elim
      | outgrown => exact hp.elim
    have Y := yield_of_body (F := F) (n := n - 1 - 1) (P := P) (a₁ := a₁ i)
      (RT := fun W' => ∃ O', Turn (D + 2) O O' W W' ∧ I O' (i + 1) W' ∧ W'.heap[D + 1]? = some (.loop (recOf fn a.tmps ps assign body D .ready none)) ∧ W'.heap[D]? = some (.deferred (some [])) ∧ ¬ O' D ∧ ¬ O' (D + 1))
      (RF := fun c W' => ∃ O', Turn (D + 2) O O' W W' ∧ Ix c O' (i + 1) W' ∧ W'.heap[D + 1]? = some (.loop (recOf fn a.tmps ps assign body D .done (some c))) ∧ W'.heap[D]? = some (.deferred (some [])) ∧ ¬ O' D ∧ ¬ O' (D + 1))
      hfn hl (hps i) (fun K hK => hassign _ i W K hi hK)
      (wpIn_mono (hbody (D + 1) O i _ (by omega) ⟨_, hl2⟩ hi (hI.putObj hii (by omega) hn1 _) (fun k hk => by have := hlt k hk; simpa using this) (by simpa using hsW)) key)
    obtain ⟨f, ts, ac, bd, hy, hR⟩ := Y
    refine ⟨f, ts, ac, bd, hy, hR.mono ?_⟩
    rintro e W' (⟨he, O', ht, hp⟩ | ⟨he, c', O', ht, hp⟩)
    · exact ⟨O', ht, .inl ⟨he, hp⟩⟩
    · exact ⟨O', ht, .inr ⟨he, c', hp⟩⟩
  · subst hr
    rintro e W2 ⟨⟨v, rfl⟩, O, hlt, hs2, (⟨hi, hl, hd, hn0, hn1⟩ | ⟨i, hiN, c', hi, hl, hd, hn0, hn1⟩)⟩
    · exact ⟨none, _, run_endLoop hl (by simp), hdone D O _ (Nat.le_refl _) (hI.putObj hi (by omega) hn1 _) hn0 (fun k hk => by simpa using hlt k hk) ((World.putObj_heap_other (by omega)).trans hd)⟩
    · exact ⟨some c', _, run_endLoop hl (by simp), hstop D c' O i _ (Nat.le_refl _) hiN ((hIx c').putObj hi (by omega) hn1 _) hn0 (fun k hk => by simpa using hlt k hk) ((World.putObj_heap_other (by omega)).trans hd)⟩
end
end Go.Proofs.YtipifkgmhgkleaaGreatDoor

namespace Go.Proofs.YtipifkgmhgkleaaGreatDoor.Class
open Go.RowKit Go.Shelf

attribute [local go_sem] Oper.semAt_some

set_option maxRecDepth 100000 in
set_option maxHeartbeats 2000000 in
theorem starts_told (m Bw Bk : Nat) (words k : Int) (N : Nat) (hN : perI words k = (N : Int)) (w : World) (hBw : w.cell? ⟨Bw, 0, none⟩ = some (.int .i64 words)) (hBwl : Bw < w.heap.size) :
    SeqTold Fence.wide m Tryz.prog 344 #[.pointer (some ⟨Bw, 0, none⟩), .pointer (some ⟨Bk, 0, none⟩)] N (encS k) (fun W => SizTab W ∧ W.cell? ⟨Bk, 0, none⟩ = some (.int .i64 k)) w := by
  refine SeqTold.any (n := 4) ?_
  intro l J Jx W hW hJ hJx hT hY h0
  have hBw' : W.cell? ⟨Bw, 0, none⟩ = some (.int .i64 words) := (hW.cell (p := ⟨Bw, 0, none⟩) hBwl).trans hBw
  obtain ⟨O0, hj0, hO0⟩ := h0
  obtain ⟨ht, hBk⟩ := hT _ _ _ hj0
  have HT := Lib.hid ht
  have HN := Lib.hid hN
  have hb := per_bd words k
  rw [hN] at hb
  clear ht hN hJ hJx hBw hBwl
  refine callsIn_of_wp Tryz.func344 rfl trivial ?_ rfl
  simp only [Tryz.ntmps344, List.size_toArray, List.length_cons, List.length_nil, Nat.reduceAdd, Nat.reduceSub, Array.replicate_succ, Array.replicate_zero, List.push_toArray, List.append_toArray, List.nil_append, List.cons_append]
  gi_wp2_with (refine ⟨trivial, ?_⟩; gi_at_call 342; refine (callsIn_wide.2 (per_any _ _ _ HT.out)).mono ?_; rintro e w' ⟨rfl, rfl⟩; rw [HN.out])
  clear hBw'
  gi_loopw [8] (fun i wr => ∃ m : Nat, m ≤ N ∧ i = .int .i64 (m : Int) ∧ W.heap.size ≤ wr.heap.size ∧ ∃ O, J O m wr ∧ ∀ k, O k → k < wr.heap.size)
    (fun i _ => N - (intOf i).toNat)
  case atStart => exact ⟨0, Nat.zero_le _, by simp, Nat.le_refl _, O0, hj0, hO0⟩
  case round =>
    obtain ⟨m, hm, rfl, hsz, O, hJm, hOm⟩ := hrel
    obtain ⟨ht', hBk'⟩ := hT _ _ _ hJm
    have HT' := Lib.hid ht'
    clear ht'
    by_cases hlt : m < N
    · obtain ⟨fn, tmps, assign, body, hy, hR⟩ := hY O m wr hlt hJm hOm hsz
      unfold encS at hy
      obtain ⟨m0, m1⟩ := mul_bd k (i := m) (by omega)
      gi_wp2_with (refine ⟨trivial, ?_⟩; gi_at_call 343; refine (callsIn_wide.2 (size_any _ _ HT'.out)).mono ?_; rintro e w' ⟨rfl, rfl⟩)
      refine hR.mono ?_
      rintro e W3 ⟨O', ht3, (⟨rfl, hJ3⟩ | ⟨rfl, hJx3⟩)⟩
      · have hs3 := ht3.size
        have ho3 := ht3.lt
        gi_wp2
        go_roundw
        case rel => exact ⟨m + 1, by omega, by go_num, by omega, O', hJ3, ho3⟩
        case measure => simp [intOf]; omega
      · have hs3 := ht3.size
        have ho3 := ht3.lt
        gi_wp2
        refine bodyPost_ret (results_none rfl _ _ _) rfl ?_
        exact ⟨⟨_, rfl⟩, O', ho3, by omega, .inr ⟨m, hlt, hJx3⟩⟩
    · gi_wp2
      go_end0
      exact ⟨⟨_, rfl⟩, O, hOm, hsz, .inl (by rw [show N = m from by omega]; exact hJm)⟩
end Go.Proofs.YtipifkgmhgkleaaGreatDoor.Class
