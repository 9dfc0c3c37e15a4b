/-
  The law's Of: a heap's objects, and where their fields lead.
-/
import Derived.Test.YtpcgmkchflmcmaaGreatDoorTrP
namespace Go.Proofs.YtpcgmkchflmcmaaGreatDoor.Tr
open Go.RowKit Go.Shelf
open Class (below_drewN)
open Blk (Cfg allP kAt)
open Hp (isO_any fields_any load_any Ids St Wf Is To Mine bn bnI bnI_nat fN fE lE lV objL not_mine objects_any NewRow pkA_len)
open Rf (wpList_append_one)
open Go.Proofs.YtpcgmkchflmcmaaGreatDoor.Row (Chg Rd Rd0 rowB rowB_none cell_of_block frozen_of_block other same cellsZ cellsZ_length cellsZ_snoc owns_block owns_chg owns_lt owns_base owns_cell push_row step_append_own info_parts infoInt one_at)
open Go.Proofs.YtpcgmkchflmcmaaGreatDoor.Addr (Tabs)

theorem obj_at {s : St} {i : Nat} (hw : Wf s) (hk : ∀ j, kAt s.ks j < 4) (h : i < (objL s).length) : bnI s ((objL s).getD i 0) = true :=
  (objL_mem hw hk).1 (by rw [List.getD_eq_getElem?_getD, List.getElem?_eq_getElem h]; exact List.getElem_mem h)
theorem owns_any {w : World} {base cap n : Nat} {e : TypeId} {p : Option Addr} {vs : List Value} (h : w.ownsRow base e 1 (.slice p n cap) n vs) : ∀ j v, vs[j]? = some v → ∃ g off, p = some ⟨g, off, none⟩ ∧ w.cell? ⟨g, off + j, none⟩ = some v := fun j v hv => by
  obtain ⟨h1, ⟨h2, h3⟩ | ⟨g, c, cur, e1, r⟩⟩ := id h
  · have := (List.getElem?_eq_some_iff.1 hv).1
    omega
  · cases e1
    exact ⟨g, 0, rfl, by rw [Nat.zero_add]; exact owns_cell h j v hv⟩
theorem infoRow : (Tryz.prog.info? 28).map (fun i => (i.zero, i.size, i.bytes)) = some (some (.slice none 0 0), 1, 24) := by kernel_rfl

/-- append of one row to a row of rows, as a statement. -/
theorem wpList_append_val {ops : Array Oper} {rest : List Oper} {o : Oper} {a : Act} {w : World} {Q : Exit → Act → World → Prop} (hgd : o.guard = none) (s x : Operand)
    (ho : o.op = .call { callee := .builtin .append, args := #[s, x], argTypes := #[34, 34] })
    (Y : World) (base : Nat) (pl : Option Addr) (cap n : Nat) (ys : List Value) (pv : Option Addr) (nv cv : Nat) (hw : Y.alloc (.cells #[.slice pv nv cv] 28) = w) (he : a.eval s = .slice pl n cap) (hown : Y.ownsRow base 28 1 (.slice pl n cap) n ys)
    (hx : a.eval x = .slice (some ⟨Y.heap.size, 0, none⟩) 1 1) (hl : n ≤ 1000000) (hbase : base ≤ Y.heap.size)
    (h : ∀ v' w', w'.ownsRow base 28 1 v' (n + 1) (ys ++ [.slice pv nv cv]) → (Y.alloc (.cells #[.slice pv nv cv] 28)).grownBy w' (Value.slice pl n cap).ownBlock → v'.ownBlock = (Value.slice pl n cap).ownBlock ∨ v'.ownBlock = some (Y.alloc (.cells #[.slice pv nv cv] 28)).heap.size → wpList Tryz.prog ops Q rest (a.put o.dst v') w') :
    wpList Tryz.prog ops Q (o :: rest) a w := by
  subst hw
  refine wpList_plain hgd fun K hK => ?_
  obtain ⟨i, hi, hz, hs, hb⟩ := info_parts infoRow
  have hbl : Below Y.heap.size Y (Y.alloc (.cells #[.slice pv nv cv] 28)) := (Below.refl _ _).alloc (Nat.le_refl _) _
  have hown2 := Hp.owns_below hown hbl (fun _ hg => (owns_lt hown hg).2)
  obtain ⟨v', w', hr, h2, h3, _, h5⟩ := run_append_own_at (P := Tryz.prog) (Y.alloc (.cells #[.slice pv nv cv] 28)) base 34 o.type 28 i (.slice none 0 0) 1 24 Tryz.underlying34 hi hz hs hb rfl (by decide) _ _ _ hown2 ⟨Y.heap.size, 0, none⟩ 1 1 [.slice pv nv cv] rfl (one_at rfl) (by simp [Value.oneCell']) (by unfold maxLen; omega) (by omega) (by simp; omega)
  unfold Oper.wp execOp
  simp only [ho, resolve, invoke, builtin, Sem.run_bind, Sem.run_pure, Result.andThen_ok, List.map_toArray, List.map_cons, List.map_nil, he, hx, hr]
  exact hK _ _ (h v' w' h2 h3 (by simpa using h5))
/-- Where an object's fields lead. -/
def toL (s : St) (a : Int) : List Int := (fs s a).filter fun v => !(v == 0)
def toT (s : St) (a : Int) (k : Nat) : List Int := ((List.range k).map fun j => lV s a (j : Nat)).filter fun v => !(v == 0)
theorem toT_all {s : St} {a : Int} (h : bnI s a = true) : toT s a (fN s a) = toL s a := by unfold toT toL fs; rw [if_pos h]
theorem toT_yes {s : St} {a : Int} {k : Nat} (h : lV s a (k : Nat) ≠ 0) : toT s a k ++ [lV s a (k : Nat)] = toT s a (k + 1) := by
  unfold toT
  rw [List.range_succ, List.map_append, List.filter_append]
  simp [h]
theorem toT_no {s : St} {a : Int} {k : Nat} (h : lV s a (k : Nat) = 0) : toT s a k = toT s a (k + 1) := by
  unfold toT
  rw [List.range_succ, List.map_append, List.filter_append]
  simp [h]
theorem toT_len (s : St) (a : Int) (k : Nat) : (toT s a k).length ≤ k := by
  unfold toT
  refine Nat.le_trans (List.length_filter_le _ _) ?_
  simp
theorem toL_len {s : St} (a : Int) : (toL s a).length ≤ 15 := by
  unfold toL
  refine Nat.le_trans (List.length_filter_le _ _) ?_
  unfold fs
  split
  · simpa using fN_le s a
  · simp
/-- The first objects. -/
def alT (s : St) (i : Nat) : List Int := (objL s).take i
theorem alT_len {s : St} {i : Nat} (h : i ≤ (objL s).length) : (alT s i).length = i := by unfold alT; rw [List.length_take]; omega
theorem alT_snoc {s : St} {i : Nat} (h : i < (objL s).length) : alT s i ++ [(objL s).getD i 0] = alT s (i + 1) := take_snoc _ h
theorem alT_all (s : St) : alT s (objL s).length = objL s := List.take_length
theorem lE_obj {s : St} {a : Int} (hw : Wf s) (h : bnI s a = true) {k : Nat} (hk : k < fN s a) : lE s a (k : Nat) = 0 := by
  unfold lE
  rw [if_pos (obj_fN hw h).2, if_pos ⟨Int.natCast_nonneg _, by omega⟩]

/-- The row that belongs to the j-th object. -/
def tos (s : St) (j : Nat) : List Int := toL s ((objL s).getD j 0)
/-- Rows, as values. -/
def Vs (W : World) (S : Nat → Prop) (s : St) (n : Nat) (vs : List Value) : Prop :=
  vs.length = n ∧ ∀ j, j < n → ∃ p c, vs[j]? = some (.slice p (tos s j).length c) ∧ Rd W p (tos s j) ∧ ∀ g, rowB p g → 0 < (tos s j).length → S g
section
variable {w X0 X Y W W' : World} {H : Nat} {d0 d d2 : Ids} {s : St} {m m2 E base top top2 n : Nat} {p pA pT pt : Option Addr} {cA cT iA iT ct : Nat} {vs : List Value} {S S' T : Nat → Prop}
theorem Vs.turn (h : Vs W S s n vs) (hk : ∀ g, S g → g < W.heap.size → W'.heap[g]? = W.heap[g]? ∧ S' g) : Vs W' S' s n vs :=
  ⟨h.1, fun j hj => by
    obtain ⟨p, c, h1, h2, h3⟩ := h.2 j hj
    exact ⟨p, c, h1, h2.kept (fun g hg hl => (hk g (h3 g hg hl) (h2.lt hg hl)).1), fun g hg hl => (hk g (h3 g hg hl) (h2.lt hg hl)).2⟩⟩
theorem Vs.snoc (h : Vs W S s n vs) {v : Value} (p : Option Addr) (c : Nat) (hv : v = .slice p (tos s n).length c) (hr : Rd W p (tos s n)) (hs : ∀ g, rowB p g → 0 < (tos s n).length → S g) : Vs W S s (n + 1) (vs ++ [v]) := by
  refine ⟨by rw [List.length_append, h.1]; rfl, fun j hj => ?_⟩
  by_cases e : j < n
  · obtain ⟨p', c', h1, h2, h3⟩ := h.2 j e
    exact ⟨p', c', by rw [List.getElem?_append_left (by rw [h.1]; exact e)]; exact h1, h2, h3⟩
  · obtain rfl : j = n := by omega
    refine ⟨p, c, ?_, hr, hs⟩
    rw [List.getElem?_append_right (by rw [h.1]; exact Nat.le_refl _), h.1, hv]
    simp
/-- Of, under way. -/
structure Eo (w X0 wr : World) (H : Nat) (d0 d : Ids) (s : St) (m E base top : Nat) (p pA pT : Option Addr) (cA cT iA iT : Nat) (vs : List Value) : Prop where
  tn : Tn w H d0 wr d s m
  kr : Rd wr p (objL s)
  kn : ∀ g, rowB p g → 0 < (objL s).length → ¬ Mine H d g ∧ ¬ rowB pA g ∧ ¬ rowB pT g ∧ g ≠ E ∧ g < top
  e0 : wr.cell? ⟨E, 0, none⟩ = some (.slice pA iA cA)
  e1 : wr.cell? ⟨E, 1, none⟩ = some (.slice pT iT cT)
  f0 : wr.frozen? ⟨E, 0, none⟩ = false
  f1 : wr.frozen? ⟨E, 1, none⟩ = false
  oA : wr.ownsRow base 3 1 (.slice pA iA cA) iA (cellsZ (alT s iA))
  oT : wr.ownsRow base 28 1 (.slice pT iT cT) iT vs
  vs : Vs wr (fun g => ¬ Mine H d g ∧ ¬ rowB pA g ∧ ¬ rowB pT g ∧ g ≠ E ∧ base ≤ g ∧ g < top) s iT vs
  nA : ∀ g, rowB pA g → ¬ Mine H d g ∧ ¬ rowB pT g ∧ g ≠ E ∧ g < top
  nT : ∀ g, rowB pT g → ¬ Mine H d g ∧ g ≠ E ∧ g < top
  nE : ¬ Mine H d E ∧ E < top
  lo : w.heap.size < base ∧ base ≤ E
  rb : wr.heap[w.heap.size]? = X0.heap[w.heap.size]? ∧ ¬ Mine H d w.heap.size
  hi : top ≤ wr.heap.size
theorem Eo.turn (h : Eo w X0 X H d0 d s m E base top p pA pT cA cT iA iT vs) (hT : Tn w H d0 Y d2 s m2) (hC : Chg T X Y) (hk : ∀ g, g < top → ¬ Mine H d g → ¬ T g ∧ ¬ Mine H d2 g) : Eo w X0 Y H d0 d2 s m2 E base top p pA pT cA cT iA iT vs := by
  have hhi := h.hi
  have hb : ∀ g, g < top → ¬ Mine H d g → Y.heap[g]? = X.heap[g]? := fun g h1 h2 => hC.block g (by omega) (hk g h1 h2).1
  have cE : ∀ o, Y.cell? ⟨E, o, none⟩ = X.cell? ⟨E, o, none⟩ := fun o => cell_of_block (a := ⟨E, o, none⟩) (hb E h.nE.2 h.nE.1)
  have fE : ∀ o, Y.frozen? ⟨E, o, none⟩ = X.frozen? ⟨E, o, none⟩ := fun o => frozen_of_block (a := ⟨E, o, none⟩) (hb E h.nE.2 h.nE.1)
  refine ⟨hT, h.kr.kept (fun g hg hl => hb g (h.kn g hg hl).2.2.2.2 (h.kn g hg hl).1), fun g hg hl => ?_, (cE 0).trans h.e0, (cE 1).trans h.e1, (fE 0).trans h.f0, (fE 1).trans h.f1, owns_block h.oA (fun g hg => hb g (h.nA g hg).2.2.2 (h.nA g hg).1), owns_block h.oT (fun g hg => hb g (h.nT g hg).2.2 (h.nT g hg).1),
    h.vs.turn (fun g hs _ => ⟨hb g hs.2.2.2.2.2 hs.1, (hk g hs.2.2.2.2.2 hs.1).2, hs.2⟩), fun g hg => ⟨(hk g (h.nA g hg).2.2.2 (h.nA g hg).1).2, (h.nA g hg).2⟩, fun g hg => ⟨(hk g (h.nT g hg).2.2 (h.nT g hg).1).2, (h.nT g hg).2⟩, ⟨(hk E h.nE.2 h.nE.1).2, h.nE.2⟩, h.lo, ⟨(hb _ (by have := h.lo; have := h.nE; omega) h.rb.2).trans h.rb.1, (hk _ (by have := h.lo; have := h.nE; omega) h.rb.2).2⟩, Nat.le_trans hhi hC.size⟩
  have h1 := h.kn g hg hl
  exact ⟨(hk g h1.2.2.2.2 h1.1).2, h1.2⟩
theorem Eo.heap (h : Eo w X0 X H d0 d s m E base top p pA pT cA cT iA iT vs) (k : Tn X H d Y d2 s m2) : Eo w X0 Y H d0 d2 s m2 E base top p pA pT cA cT iA iT vs :=
  h.turn (h.tn.trans k) k.chg (fun g h1 h2 => ⟨h2, fun e => (k.grow g e).elim h2 (fun e => by have := h.hi; omega)⟩)
theorem Eo.far (h : Eo w X0 X H d0 d s m E base top p pA pT cA cT iA iT vs) (hC : Chg T X Y) (hT : ∀ k, T k → top ≤ k ∧ ¬ Mine H d k) : Eo w X0 Y H d0 d s m E base top p pA pT cA cT iA iT vs :=
  h.turn ⟨h.tn.is.chg hC (fun k hk e => (hT k e).2 hk), h.tn.chg.trans hC (fun k e => .inr (by have := hT k e; have := h.lo; have := h.nE; omega)), h.tn.grow⟩ hC (fun g h1 h2 => ⟨fun e => by have := hT g e; omega, h2⟩)
theorem Eo.later (h : Eo w X0 X H d0 d s m E base top p pA pT cA cT iA iT vs) (hb : Below X.heap.size X Y) : Eo w X0 Y H d0 d s m E base top p pA pT cA cT iA iT vs :=
  h.far (T := fun _ => False) (Chg.of_below hb) (fun _ e => e.elim)
theorem Eo.more (h : Eo w X0 X H d0 d s m E base top p pA pT cA cT iA iT vs) (hm : m ≤ m2) : Eo w X0 X H d0 d s m2 E base top p pA pT cA cT iA iT vs :=
  ⟨h.tn.more hm, h.kr, h.kn, h.e0, h.e1, h.f0, h.f1, h.oA, h.oT, h.vs, h.nA, h.nT, h.nE, h.lo, h.rb, h.hi⟩
theorem Eo.raise (h : Eo w X0 X H d0 d s m E base top p pA pT cA cT iA iT vs) : Eo w X0 X H d0 d s m E base X.heap.size p pA pT cA cT iA iT vs := by
  have hh := h.hi
  exact ⟨h.tn, h.kr, fun g hg hl => by have := h.kn g hg hl; exact ⟨this.1, this.2.1, this.2.2.1, this.2.2.2.1, by omega⟩, h.e0, h.e1, h.f0, h.f1, h.oA, h.oT, h.vs.turn (fun g hs _ => ⟨rfl, hs.1, hs.2.1, hs.2.2.1, hs.2.2.2.1, hs.2.2.2.2.1, by omega⟩), fun g hg => by have := h.nA g hg; exact ⟨this.1, this.2.1, this.2.2.1, by omega⟩, fun g hg => by have := h.nT g hg; exact ⟨this.1, this.2.1, by omega⟩, ⟨h.nE.1, by have := h.nE.2; omega⟩, h.lo, h.rb, Nat.le_refl _⟩
/-- A row on its way. -/
structure Tw (X : World) (H : Nat) (d : Ids) (E base : Nat) (pA pT pt : Option Addr) (l : List Int) : Prop where
  rd : Rd X pt l
  nm : ∀ g, rowB pt g → 0 < l.length → ¬ Mine H d g ∧ ¬ rowB pA g ∧ ¬ rowB pT g ∧ g ≠ E ∧ base ≤ g
/-- One object more. -/
theorem Eo.pushA {Y0 w5 : World} {v' : Value} {x : Int} {l : List Int} (h : Eo w X0 X H d0 d s m E base top p pA pT cA cT iA iT vs) (ht : Tw X H d E base pA pT pt l) (hi : iA < (objL s).length) (hx : (objL s).getD iA 0 = x) (hb : Below X.heap.size X Y0) (hown : w5.ownsRow base 3 1 v' (iA + 1) (cellsZ (alT s iA) ++ [.int .i64 x])) (hg : Y0.grownBy w5 (Value.slice pA iA cA).ownBlock)
    (hat : v'.ownBlock = (Value.slice pA iA cA).ownBlock ∨ v'.ownBlock = some Y0.heap.size) :
    ∃ p' c', v' = .slice p' (iA + 1) c' ∧ w5.cell? ⟨E, 0, none⟩ = some (.slice pA iA cA) ∧ w5.frozen? ⟨E, 0, none⟩ = false ∧ Eo w X0 (w5.setCell ⟨E, 0, none⟩ (.slice p' (iA + 1) c')) H d0 d s m E base w5.heap.size p p' pT c' cT (iA + 1) iT vs ∧ Tw (w5.setCell ⟨E, 0, none⟩ (.slice p' (iA + 1) c')) H d E base p' pT pt l := by
  obtain ⟨p', c', rfl, hC, hR⟩ := push_row hb hown hg hat
  have hX := h.hi
  have hs := hC.size
  have hE5 : w5.heap[E]? = X.heap[E]? := hC.block E (by have := h.nE; omega) (fun e => (h.nA E e).2.2.1 rfl)
  have z0 : w5.cell? ⟨E, 0, none⟩ = some (.slice pA iA cA) := (cell_of_block (a := ⟨E, 0, none⟩) hE5).trans h.e0
  have z1 : w5.cell? ⟨E, 1, none⟩ = some (.slice pT iT cT) := (cell_of_block (a := ⟨E, 1, none⟩) hE5).trans h.e1
  have g0 : w5.frozen? ⟨E, 0, none⟩ = false := (frozen_of_block (a := ⟨E, 0, none⟩) hE5).trans h.f0
  have g1 : w5.frozen? ⟨E, 1, none⟩ = false := (frozen_of_block (a := ⟨E, 1, none⟩) hE5).trans h.f1
  have hC2 : Chg (fun k => rowB pA k ∨ k = E) X (w5.setCell ⟨E, 0, none⟩ (.slice p' (iA + 1) c')) := (hC.mono (fun k e => .inl e)).set (.inl (.inr rfl)) _
  have hkeep : ∀ g, g < X.heap.size → ¬ rowB pA g → g ≠ E → (w5.setCell ⟨E, 0, none⟩ (.slice p' (iA + 1) c')).heap[g]? = X.heap[g]? := fun g h1 h2 h3 => hC2.block g h1 (fun e => e.elim h2 h3)
  have hnew : ∀ g, g < X.heap.size → ¬ rowB pA g → ¬ rowB p' g := fun g h1 h2 e => (hR g e).elim h2 (by omega)
  have hnm : ∀ g, rowB pA g ∨ g = E → ¬ Mine H d g := fun g e => e.elim (fun e => (h.nA g e).1) (fun e => e ▸ h.nE.1)
  have hown' : w5.ownsRow base 3 1 (.slice p' (iA + 1) c') (iA + 1) (cellsZ (alT s (iA + 1))) := by rw [← alT_snoc hi, cellsZ_snoc, hx]; exact hown
  have hp'E : ∀ g, rowB p' g → g ≠ E := fun g e e2 => (hR g e).elim (fun e => (h.nA g e).2.2.1 e2) (fun e => by have := h.nE; omega)
  have hsz : (w5.setCell ⟨E, 0, none⟩ (.slice p' (iA + 1) c')).heap.size = w5.heap.size := by simp [World.setCell]
  refine ⟨p', c', rfl, z0, g0, ⟨⟨h.tn.is.chg hC2 (fun k hk e => hnm k e hk), h.tn.chg.trans hC2 (fun k e => .inr (e.elim (fun e => by have h1 := h.lo; have := owns_lt h.oA e; omega) (fun e => by have h1 := h.lo; omega))), h.tn.grow⟩,
    h.kr.kept (fun g hg hl => hkeep g (h.kr.lt hg hl) (h.kn g hg hl).2.1 (h.kn g hg hl).2.2.2.1), fun g hg hl => ?_, same z0, (other (by simp)).trans z1, (World.frozen?_setCell ..).trans g0, (World.frozen?_setCell ..).trans g1, owns_block hown' (fun g hg => Below.heap_setCell w5 _ _ g (fun e => hp'E g hg e)), owns_block h.oT (fun g hg => hkeep g (owns_lt h.oT hg).2 (fun e => (h.nA g e).2.1 hg) (h.nT g hg).2.1),
    h.vs.turn (fun g hs hl => ⟨hkeep g hl hs.2.1 hs.2.2.2.1, hs.1, hnew g hl hs.2.1, hs.2.2.1, hs.2.2.2.1, hs.2.2.2.2.1, by omega⟩), fun g hg => ?_, fun g hg => ⟨(h.nT g hg).1, (h.nT g hg).2.1, by have := (h.nT g hg).2.2; omega⟩, ⟨h.nE.1, by have := h.nE.2; omega⟩, h.lo, ⟨(hkeep _ (by have := h.lo; have := h.nE; omega) (fun e => by have := owns_lt h.oA e; have := h.lo; omega) (by have := h.lo; omega)).trans h.rb.1, h.rb.2⟩, by rw [hsz]; exact Nat.le_refl _⟩, ?_⟩
  · have h1 := h.kn g hg hl
    exact ⟨h1.1, hnew g (h.kr.lt hg hl) h1.2.1, h1.2.2.1, h1.2.2.2.1, by omega⟩
  · have hl := (owns_lt hown' hg).2
    rcases hR g hg with e | e
    · exact ⟨(h.nA g e).1, (h.nA g e).2.1, (h.nA g e).2.2.1, hl⟩
    · exact ⟨fun e2 => by have := h.tn.is.lt e2; omega, fun e2 => by have := (h.nT g e2).2.2; omega, hp'E g hg, hl⟩
  · exact ⟨ht.rd.kept (fun g hg hl => hkeep g (ht.rd.lt hg hl) (ht.nm g hg hl).2.1 (ht.nm g hg hl).2.2.2.1), fun g hg hl => ⟨(ht.nm g hg hl).1, hnew g (ht.rd.lt hg hl) (ht.nm g hg hl).2.1, (ht.nm g hg hl).2.2⟩⟩
/-- Its row. -/
theorem Eo.pushT {Y0 w5 : World} {v' : Value} (h : Eo w X0 X H d0 d s m E base top p pA pT cA cT iA iT vs) (ht : Tw X H d E base pA pT pt (tos s iT)) (hb : Below X.heap.size X Y0) (hown : w5.ownsRow base 28 1 v' (iT + 1) (vs ++ [.slice pt (tos s iT).length ct])) (hg : Y0.grownBy w5 (Value.slice pT iT cT).ownBlock)
    (hat : v'.ownBlock = (Value.slice pT iT cT).ownBlock ∨ v'.ownBlock = some Y0.heap.size) :
    ∃ p' c', v' = .slice p' (iT + 1) c' ∧ w5.cell? ⟨E, 1, none⟩ = some (.slice pT iT cT) ∧ w5.frozen? ⟨E, 1, none⟩ = false ∧ Eo w X0 (w5.setCell ⟨E, 1, none⟩ (.slice p' (iT + 1) c')) H d0 d s m E base w5.heap.size p pA p' cA c' iA (iT + 1) (vs ++ [.slice pt (tos s iT).length ct]) := by
  obtain ⟨p', c', rfl, hC, hR⟩ := push_row hb hown hg hat
  have hX := h.hi
  have hs := hC.size
  have hE5 : w5.heap[E]? = X.heap[E]? := hC.block E (by have := h.nE; omega) (fun e => (h.nT E e).2.1 rfl)
  have z0 : w5.cell? ⟨E, 0, none⟩ = some (.slice pA iA cA) := (cell_of_block (a := ⟨E, 0, none⟩) hE5).trans h.e0
  have z1 : w5.cell? ⟨E, 1, none⟩ = some (.slice pT iT cT) := (cell_of_block (a := ⟨E, 1, none⟩) hE5).trans h.e1
  have g0 : w5.frozen? ⟨E, 0, none⟩ = false := (frozen_of_block (a := ⟨E, 0, none⟩) hE5).trans h.f0
  have g1 : w5.frozen? ⟨E, 1, none⟩ = false := (frozen_of_block (a := ⟨E, 1, none⟩) hE5).trans h.f1
  have hC2 : Chg (fun k => rowB pT k ∨ k = E) X (w5.setCell ⟨E, 1, none⟩ (.slice p' (iT + 1) c')) := (hC.mono (fun k e => .inl e)).set (.inl (.inr rfl)) _
  have hkeep : ∀ g, g < X.heap.size → ¬ rowB pT g → g ≠ E → (w5.setCell ⟨E, 1, none⟩ (.slice p' (iT + 1) c')).heap[g]? = X.heap[g]? := fun g h1 h2 h3 => hC2.block g h1 (fun e => e.elim h2 h3)
  have hnew : ∀ g, g < X.heap.size → ¬ rowB pT g → ¬ rowB p' g := fun g h1 h2 e => (hR g e).elim h2 (by omega)
  have hnm : ∀ g, rowB pT g ∨ g = E → ¬ Mine H d g := fun g e => e.elim (fun e => (h.nT g e).1) (fun e => e ▸ h.nE.1)
  have hp'E : ∀ g, rowB p' g → g ≠ E := fun g e e2 => (hR g e).elim (fun e => (h.nT g e).2.1 e2) (fun e => by have := h.nE; omega)
  have hsz : (w5.setCell ⟨E, 1, none⟩ (.slice p' (iT + 1) c')).heap.size = w5.heap.size := by simp [World.setCell]
  refine ⟨p', c', rfl, z1, g1, ⟨⟨h.tn.is.chg hC2 (fun k hk e => hnm k e hk), h.tn.chg.trans hC2 (fun k e => .inr (e.elim (fun e => by have h1 := h.lo; have := owns_lt h.oT e; omega) (fun e => by have h1 := h.lo; omega))), h.tn.grow⟩,
    h.kr.kept (fun g hg hl => hkeep g (h.kr.lt hg hl) (h.kn g hg hl).2.2.1 (h.kn g hg hl).2.2.2.1), fun g hg hl => ?_, (other (by simp)).trans z0, same z1, (World.frozen?_setCell ..).trans g0, (World.frozen?_setCell ..).trans g1, owns_block h.oA (fun g hg => hkeep g (owns_lt h.oA hg).2 (h.nA g hg).2.1 (h.nA g hg).2.2.1), owns_block hown (fun g hg => Below.heap_setCell w5 _ _ g (fun e => hp'E g hg e)),
    (Vs.snoc (h.vs.turn (S' := fun g => ¬ Mine H d g ∧ ¬ rowB pA g ∧ ¬ rowB p' g ∧ g ≠ E ∧ base ≤ g ∧ g < w5.heap.size) (fun g hs hl => ⟨hkeep g hl hs.2.2.1 hs.2.2.2.1, hs.1, hs.2.1, hnew g hl hs.2.2.1, hs.2.2.2.1, hs.2.2.2.2.1, by omega⟩)) pt ct rfl (ht.rd.kept (fun g hg hl => hkeep g (ht.rd.lt hg hl) (ht.nm g hg hl).2.2.1 (ht.nm g hg hl).2.2.2.1)) (fun g hg hl => ⟨(ht.nm g hg hl).1, (ht.nm g hg hl).2.1, hnew g (ht.rd.lt hg hl) (ht.nm g hg hl).2.2.1, (ht.nm g hg hl).2.2.2.1, (ht.nm g hg hl).2.2.2.2, by have := ht.rd.lt hg hl; omega⟩)),
    fun g hg => ?_, fun g hg => ?_, ⟨h.nE.1, by have := h.nE.2; omega⟩, h.lo, ⟨(hkeep _ (by have := h.lo; have := h.nE; omega) (fun e => by have := owns_lt h.oT e; have := h.lo; omega) (by have := h.lo; omega)).trans h.rb.1, h.rb.2⟩, by rw [hsz]; exact Nat.le_refl _⟩⟩
  · have h1 := h.kn g hg hl
    exact ⟨h1.1, h1.2.1, hnew g (h.kr.lt hg hl) h1.2.2.1, h1.2.2.2.1, by omega⟩
  · have h1 := h.nA g hg
    exact ⟨h1.1, hnew g (by omega) h1.2.1, h1.2.2.1, by omega⟩
  · have hl := (owns_lt hown hg).2
    rcases hR g hg with e | e
    · exact ⟨(h.nT g e).1, (h.nT g e).2.1, hl⟩
    · exact ⟨fun e2 => by have := h.tn.is.lt e2; omega, hp'E g hg, hl⟩
/-- What Of tells. -/
def OfT (w : World) (H : Nat) (d : Ids) (s : St) (m : Nat) (e : Ending) (w' : World) : Prop :=
  ∃ pA cA pT cT vs d', e = .returned (.agg #[.slice pA (objL s).length cA, .slice pT (objL s).length cT]) ∧ Tn w H d w' d' s (m + 40 * (objL s).length) ∧ w'.ownsRow w.heap.size 3 1 (.slice pA (objL s).length cA) (objL s).length (cellsZ (objL s)) ∧ (∀ g, rowB pA g → ¬ Mine H d' g) ∧
    w'.ownsRow w.heap.size 28 1 (.slice pT (objL s).length cT) (objL s).length vs ∧ (∀ g, rowB pT g → ¬ Mine H d' g) ∧ Vs w' (fun g => ¬ Mine H d' g) s (objL s).length vs
end

set_option maxRecDepth 100000 in
set_option maxHeartbeats 4000000 in
theorem of_any {H : Nat} {d : Ids} {s : St} {m : Nat} (w : World) (h : Is w H d s m) (ht : Tabs w) (hm : m + 40 * (objL s).length < 800000) :
    Calls Tryz.prog 11 #[.pointer (some ⟨H, 0, none⟩)] w (OfT w H d s m) := by
  have hb0 : Below w.heap.size w ((w.alloc (.cells #[.slice none 0 0, .slice none 0 0] 36)).alloc (.cells #[.slice none 0 0, .slice none 0 0] 36)) := ((Below.refl _ _).alloc (Nat.le_refl _) _).alloc (by simp) _
  have HO := Lib.hid (objects_any _ (h.later hb0) (ht.later hb0))
  have HA := Lib.hid h
  have HT := Lib.hid ht
  have hN := pkA_len h.wf (bnI s)
  have HWF := Lib.hid h.wf
  have HK4 := Lib.hid h.tb.kLt
  clear h ht
  go_enter Tryz.func11, Tryz.ntmps11
  go_wp2_with fail
  generalize hX : World.alloc (World.alloc w _) _ = X at *
  have hx0 : X.cell? ⟨w.heap.size, 0, none⟩ = some (.slice none 0 0) ∧ X.cell? ⟨w.heap.size, 1, none⟩ = some (.slice none 0 0) := by
    rw [← hX]
    exact ⟨by simp, by simp⟩
  have hx1 : X.frozen? ⟨w.heap.size, 0, none⟩ = false ∧ X.frozen? ⟨w.heap.size, 1, none⟩ = false := by
    rw [← hX]
    have hf : ∀ o : Nat, ((w.alloc (.cells #[.slice none 0 0, .slice none 0 0] 36)).alloc (.cells #[.slice none 0 0, .slice none 0 0] 36)).frozen? ⟨w.heap.size, o, none⟩ = false := fun o =>
      (frozen_of_block (a := ⟨w.heap.size, o, none⟩) (((Below.refl _ _).alloc (Nat.le_refl _) _).block _ (by simp))).trans (World.frozen?_alloc_at _ _ _ _ rfl)
    exact ⟨hf 0, hf 1⟩
  have hx2 : X.cell? ⟨w.heap.size + 1, 0, none⟩ = some (.slice none 0 0) ∧ X.cell? ⟨w.heap.size + 1, 1, none⟩ = some (.slice none 0 0) := by
    rw [← hX]
    exact ⟨by rw [World.cell?_alloc_at _ _ _ _ (by simp)]; rfl, by rw [World.cell?_alloc_at _ _ _ _ (by simp)]; rfl⟩
  have hx3 : ∀ o : Nat, X.frozen? ⟨w.heap.size + 1, o, none⟩ = false := fun o => by
    rw [← hX]
    exact World.frozen?_alloc_at _ _ _ _ (by simp)
  have hxs : X.heap.size = w.heap.size + 2 := by rw [← hX]; simp
  have hxb : Below w.heap.size w X := hb0
  clear hb0 hX
  refine HO.out.mono ?_
  rintro e w2 ⟨p, cl, rfl, ho, hb2⟩
  have HE := Lib.hid (show Eo w X w2 H d d s m (w.heap.size + 1) (w.heap.size + 1) w2.heap.size p none none 0 0 0 0 [] from by
    have hs2 := hb2.size
    have hlt : ∀ k, Mine H d k → k < w.heap.size := fun k hk => HA.out.lt hk
    have hE2 : w2.heap[w.heap.size + 1]? = X.heap[w.heap.size + 1]? := hb2.block _ (by omega)
    exact ⟨((Tn.refl HA.out).later hxb).later hb2, Rd.of_owns ho, fun g hg _ => ⟨fun e => by have := hlt g e; have := owns_lt ho hg; omega, rowB_none g, rowB_none g, by have := owns_lt ho hg; omega, (owns_lt ho hg).2⟩, (cell_of_block (a := ⟨w.heap.size + 1, 0, none⟩) hE2).trans hx2.1, (cell_of_block (a := ⟨w.heap.size + 1, 1, none⟩) hE2).trans hx2.2, (frozen_of_block (a := ⟨w.heap.size + 1, 0, none⟩) hE2).trans (hx3 0), (frozen_of_block (a := ⟨w.heap.size + 1, 1, none⟩) hE2).trans (hx3 1),
      ⟨by simp [cellsZ, alT], .inl ⟨rfl, rfl⟩⟩, ⟨rfl, .inl ⟨rfl, rfl⟩⟩, ⟨rfl, fun j hj => by omega⟩, fun g e => absurd e (rowB_none g), fun g e => absurd e (rowB_none g), ⟨fun e => by have := hlt _ e; omega, by omega⟩, ⟨by omega, Nat.le_refl _⟩, ⟨hb2.block _ (by omega), fun e => by have := hlt _ e; omega⟩, Nat.le_refl _⟩)
  clear ho hb2 hx2 hx3 HO
  generalize hEE : w.heap.size + 1 = E at *
  go_wp2
  go_loopw [5] (fun x wr => ∃ (i : Nat) (d' : Ids) (pA pT : Option Addr) (cA cT : Nat) (vs : List Value) (top : Nat), i ≤ (objL s).length ∧ x = .int .i64 (i : Int) ∧ Eo w X wr H d d' s (m + 40 * i) E E top p pA pT cA cT i i vs) (fun x _ => (objL s).length - (intOf x).toNat)
  case atStart => exact ⟨0, d, none, none, 0, 0, [], _, Nat.zero_le _, rfl, HE.out⟩
  case round =>
    obtain ⟨i, d', pA, pT, cA, cT, vs, top, hi, rfl, heo⟩ := hrel
    have HEO := Lib.hid heo
    clear heo HE
    by_cases hlt : i < (objL s).length
    · have i0 : (0 : Int) ≤ (i : Int) := Int.natCast_nonneg _
      have i1 : (i : Int) < ((objL s).length : Int) := by omega
      have hbn := obj_at HWF.out HK4.out hlt
      have HBN := Lib.hid hbn
      have HFD := Lib.hid (fields_any ((objL s).getD i 0) wr HEO.out.tn.is (HEO.out.tn.tabs HA.out HT.out) (by omega))
      rw [(obj_fN HWF.out hbn).2] at HFD
      have hn15 := (obj_fN HWF.out hbn).1
      obtain ⟨g, off, hp, hc⟩ := HEO.out.kr.at hlt
      have HTA := Lib.hid (toT_all hbn)
      have HTO := Lib.hid (show tos s i = toL s ((objL s).getD i 0) from rfl)
      subst hp
      obtain ⟨a, ha⟩ : ∃ a, (objL s).getD i 0 = a := ⟨_, rfl⟩
      have HAI := Lib.hid ha
      rw [ha] at HFD hn15 hc HTA HTO HBN
      clear ha hbn
      go_wp2_with (go_at_call 26; refine HFD.out.mono ?_; rintro e w3 ⟨rfl, hT3⟩)
      obtain ⟨d3, hT4⟩ := (Tn.refl HEO.out.tn.is).to hT3
      have HE3 := Lib.hid (HEO.out.heap hT4).raise
      clear hT3 hT4 HFD hc HEO
      have HTL := Lib.hid (fun k => toT_len s a k)
      generalize hnn : fN s a = n at *
      have HNN := Lib.hid hnn
      clear hnn
      go_loopw [8, 9] (fun ov x wr => ∃ (k : Nat) (d' : Ids) (pt : Option Addr) (ct : Nat), k ≤ n ∧ x = .int .i64 (k : Int) ∧ ov = .slice pt (toT s a k).length ct ∧ Eo w X wr H d d' s (m + 40 * i + 1 + 2 * k) E E w3.heap.size (some ⟨g, off, none⟩) pA pT cA cT i i vs ∧
        wr.ownsRow w3.heap.size 3 1 (.slice pt (toT s a k).length ct) (toT s a k).length (cellsZ (toT s a k)) ∧ (∀ g, rowB pt g → ¬ Mine H d' g)) (fun _ x _ => n - (intOf x).toNat)
      case atStart => exact ⟨0, d3, none, 0, Nat.zero_le _, rfl, rfl, HE3.out, ⟨by simp [toT, cellsZ], .inl ⟨rfl, rfl⟩⟩, fun g e => absurd e (rowB_none g)⟩
      case round =>
        obtain ⟨k, d4, pt, ct, hk, rfl, rfl, heo, hot, hnt⟩ := hrel
        have HE4 := Lib.hid heo
        have HOT := Lib.hid (And.intro hot hnt)
        clear heo hot hnt HE3
        by_cases hlk : k < n
        · have k0 : (0 : Int) ≤ (k : Int) := Int.natCast_nonneg _
          have k1 : (k : Int) < (n : Int) := by omega
          obtain ⟨g', off', hp', hc⟩ := HE4.out.kr.at hlt
          cases hp'
          rw [HAI.out] at hc
          have HLD := Lib.hid (load_any a (k : Nat) wr HE4.out.tn.is (HE4.out.tn.tabs HA.out HT.out) (by omega))
          rw [lE_obj HWF.out HBN.out (by rw [HNN.out]; exact hlk)] at HLD
          have HLK := Lib.hid (show ∀ (w4 : World), To wr w4 H d4 s (m + 40 * i + 1 + 2 * k + 2) → ∃ d5, Eo w X w4 H d d5 s (m + 40 * i + 1 + 2 * (k + 1)) E E w3.heap.size (some ⟨g, off, none⟩) pA pT cA cT i i vs ∧ w4.ownsRow w3.heap.size 3 1 (.slice pt (toT s a k).length ct) (toT s a k).length (cellsZ (toT s a k)) ∧ (∀ g, rowB pt g → ¬ Mine H d5 g) ∧ w3.heap.size ≤ w4.heap.size from fun w4 hT => by
            obtain ⟨d5, hT5⟩ := (Tn.refl HE4.out.tn.is).to hT
            exact ⟨d5, HE4.out.heap hT5, owns_chg HOT.out.1 hT5.chg HOT.out.2, fun g hg e => (hT5.grow g e).elim (HOT.out.2 g hg) (fun e => by have := (owns_lt HOT.out.1 hg).2; omega), Nat.le_trans HE4.out.hi hT5.chg.size⟩)
          by_cases hv : lV s a (k : Nat) = 0
          · have HTN := Lib.hid (toT_no hv)
            have hvv : (lV s a (k : Nat) == 0) = true := by simpa using hv
            rw [hv] at HLD hvv
            clear hv
            go_wp2_with (go_at_call 20; refine HLD.out.mono ?_; rintro e w4 ⟨rfl, hT5⟩)
            obtain ⟨d5, q1, q2, q3, q4⟩ := HLK.out w4 hT5
            rw [HTN.out] at q2 ⊢
            go_roundw
            case rel => exact ⟨k + 1, d5, pt, ct, by omega, by go_num, rfl, q1, q2, q3⟩
            case measure => simp [intOf]; omega
          · have HTN := Lib.hid (toT_yes hv)
            have hvv : (lV s a (k : Nat) == 0) = false := by simpa using hv
            clear hv
            generalize lV s a (k : Nat) = v at *
            have hl1 : (toT s a k).length + 1 = (toT s a (k + 1)).length := by rw [← HTN.out]; simp
            have HAP := Lib.hid (show ∀ (w4 : World) (d5 : Ids), Eo w X w4 H d d5 s (m + 40 * i + 1 + 2 * (k + 1)) E E w3.heap.size (some ⟨g, off, none⟩) pA pT cA cT i i vs → w4.ownsRow w3.heap.size 3 1 (.slice pt (toT s a k).length ct) (toT s a k).length (cellsZ (toT s a k)) → (∀ g, rowB pt g → ¬ Mine H d5 g) → ∀ p' c' w6, w6.ownsRow w3.heap.size 3 1 (.slice p' (toT s a k ++ [v]).length c') (toT s a k ++ [v]).length (cellsZ (toT s a k ++ [v])) → Chg (rowB pt) w4 w6 → (∀ k, rowB p' k → rowB pt k ∨ w4.heap.size ≤ k) →
                Hid (Eo w X w6 H d d5 s (m + 40 * i + 1 + 2 * (k + 1)) E E w3.heap.size (some ⟨g, off, none⟩) pA pT cA cT i i vs ∧ w6.ownsRow w3.heap.size 3 1 (.slice p' (toT s a (k + 1)).length c') (toT s a (k + 1)).length (cellsZ (toT s a (k + 1))) ∧ (∀ g, rowB p' g → ¬ Mine H d5 g)) ∧ (toT s a k).length + 1 = (toT s a (k + 1)).length from fun w4 d5 h1 h2 h3 p' c' w6 h4 h5 h6 =>
              ⟨Lib.hid ⟨h1.far h5 (fun k hk => ⟨(owns_lt h2 hk).1, h3 k hk⟩), by rw [HTN.out] at h4; exact h4, fun g hg e => (h6 g hg).elim (fun e2 => h3 g e2 e) (fun e2 => by have := h1.tn.is.lt e; omega)⟩, hl1⟩)
            clear hl1 HTN
            go_wp2_with (first
              | (go_at_call 20; refine HLD.out.mono ?_; rintro e w4 ⟨rfl, hT5⟩; obtain ⟨d5, q1, q2, q3, q4⟩ := HLK.out w4 hT5; have HQ := Lib.hid (And.intro q1 (And.intro q2 q3)); clear q1 q2 q3 hT5)
              | (at_builtin; refine wpList_append_one rfl _ _ rfl w4 w3.heap.size pt ct (toT s a k) v rfl rfl HQ.out.2.1 rfl (by have := HTL.out k; omega) q4 ?_; intro p4 c4 w6 ho4 hC4 hR4; obtain ⟨HH4, hl4⟩ := HAP.out w4 d5 HQ.out.1 HQ.out.2.1 HQ.out.2.2 p4 c4 w6 ho4 hC4 hR4; rw [hl4]; clear ho4 hC4 hR4 hl4))
            go_roundw
            case rel => exact ⟨k + 1, d5, p4, c4, by omega, by go_num, rfl, HH4.out⟩
            case measure => simp [intOf]; omega
        · have k1 : ¬ (k : Int) < (n : Int) := by omega
          obtain rfl : k = n := by omega
          rw [HTA.out, ← HTO.out] at HOT ⊢
          have HE5 := Lib.hid (HE4.out.raise.more (show m + 40 * i + 1 + 2 * k ≤ m + 40 * (i + 1) by omega))
          have HTW := Lib.hid (show Tw wr H d4 E E pA pT pt (tos s i) from ⟨Rd.of_owns HOT.out.1, fun g hg _ => by
            have h1 := (owns_lt HOT.out.1 hg).1
            exact ⟨HOT.out.2 g hg, fun e => by have := (HE4.out.nA g e).2.2.2; omega, fun e => by have := (HE4.out.nT g e).2.2; omega, fun e => by have := HE4.out.nE.2; omega, by have := HE4.out.nE.2; omega⟩⟩)
          clear HE4 HOT
          go_wp2_with fail
          have ce0 := HE5.out.e0
          obtain ⟨g', off', hp', hc⟩ := HE5.out.kr.at hlt
          cases hp'
          rw [HAI.out] at hc
          have hEl := HE5.out.nE.2
          have hgl := World.block_lt_of_cell? wr _ hc
          obtain ⟨n0, hinf, hz0, hz1, hz2⟩ := info_parts infoInt
          have hba : Below wr.heap.size wr (wr.drew.alloc (.cells #[.int .i64 a] 3)) := (below_drewN (Below.refl _ wr) 1).alloc (Nat.le_refl _) _
          have HBA := Lib.hid hba
          have HOW := Lib.hid (owns_block HE5.out.oA (fun g hg => Below.heap_alloc wr.drew (.cells #[.int .i64 a] 3) g (by simpa using (owns_lt HE5.out.oA hg).2)))
          have ce0a : (wr.alloc (.cells #[.int .i64 a] 3)).cell? ⟨E, 0, none⟩ = some (.slice pA i cA) := (Below.cell (((Below.refl _ wr).alloc (Nat.le_refl _) _)) (p := ⟨E, 0, none⟩) hEl).trans ce0
          have hca : (wr.alloc (.cells #[.int .i64 a] 3)).cell? ⟨g, off + i, none⟩ = some (.int .i64 a) := (Below.cell (((Below.refl _ wr).alloc (Nat.le_refl _) _)) (p := ⟨g, off + i, none⟩) hgl).trans hc
          clear hba
          go_region_law (refine step_append_own rfl (.tmp 58) (.tmp 63) 28 rfl E 3 n0 (.int .i64 0) 1 8 Tryz.underlying28 hinf hz0 hz1 hz2 rfl (by decide) (.slice pA i cA) _ (cellsZ (alT s i)) rfl HOW.out ⟨wr.heap.size, 0, none⟩ 1 1 [.int .i64 a] rfl rfl (one_at rfl) (by simp [Value.oneCell']) (by unfold maxLen; omega) (by omega) (by simp; omega) ?_; intro v' w5 hown hgrow hat; obtain ⟨p', c', rfl, z0, g0, hE6, hT6⟩ := HE5.out.pushA HTW.out hlt HAI.out HBA.out hown hgrow hat; have HE6 := Lib.hid hE6; have HT6 := Lib.hid hT6; clear hown hgrow hat hE6 hT6)
          all_goals
            clear z0 g0
            generalize w5.setCell ⟨E, 0, none⟩ (.slice p' (i + 1) c') = w6 at *
            have hs6 : E ≤ w6.heap.size := by have := HE6.out.nE.2; have := HE6.out.hi; omega
            have ce1 := HE6.out.e1
            have HB6 := Lib.hid ((Below.refl _ w6).alloc (Nat.le_refl _) (.cells #[.slice pt (tos s i).length ct] 28))
            go_wp2_with (at_builtin; refine wpList_append_val rfl _ _ rfl w6 E pT cT i vs pt (tos s i).length ct rfl rfl HE6.out.oT rfl (by omega) hs6 ?_; intro v2 w7 ho7 hg7 ha7; obtain ⟨pT', cT', rfl, y0, y1, hE7⟩ := HE6.out.pushT (ct := ct) HT6.out HB6.out ho7 hg7 ha7; have HE7 := Lib.hid hE7; clear ho7 hg7 ha7 hE7)
            go_roundw
            case rel => exact ⟨i + 1, d4, p', pT', c', cT', _, _, by omega, by go_num, HE7.out⟩
            case measure => simp [intOf]; omega
    · have i1 : ¬ (i : Int) < ((objL s).length : Int) := by omega
      obtain rfl : i = (objL s).length := by omega
      have hal := alT_all s
      have HEO' := Lib.hid HEO.out
      have ce0 := HEO.out.e0
      have ce1 := HEO.out.e1
      have hrb := HEO.out.rb.1
      have cr0 := (cell_of_block (a := ⟨w.heap.size, 0, none⟩) hrb).trans hx0.1
      have cr1 := (cell_of_block (a := ⟨w.heap.size, 1, none⟩) hrb).trans hx0.2
      have fr0 := (frozen_of_block (a := ⟨w.heap.size, 0, none⟩) hrb).trans hx1.1
      have fr1 := (frozen_of_block (a := ⟨w.heap.size, 1, none⟩) hrb).trans hx1.2
      have HFN := Lib.hid (show ∀ va vb, Tn w H d ((wr.setCell ⟨w.heap.size, 0, none⟩ va).setCell ⟨w.heap.size, 1, none⟩ vb) d' s (m + 40 * (objL s).length) ∧ ((wr.setCell ⟨w.heap.size, 0, none⟩ va).setCell ⟨w.heap.size, 1, none⟩ vb).ownsRow w.heap.size 3 1 (.slice pA (objL s).length cA) (objL s).length (cellsZ (objL s)) ∧ (∀ g, rowB pA g → ¬ Mine H d' g) ∧
          ((wr.setCell ⟨w.heap.size, 0, none⟩ va).setCell ⟨w.heap.size, 1, none⟩ vb).ownsRow w.heap.size 28 1 (.slice pT (objL s).length cT) (objL s).length vs ∧ (∀ g, rowB pT g → ¬ Mine H d' g) ∧ Vs ((wr.setCell ⟨w.heap.size, 0, none⟩ va).setCell ⟨w.heap.size, 1, none⟩ vb) (fun g => ¬ Mine H d' g) s (objL s).length vs ∧
          ((wr.setCell ⟨w.heap.size, 0, none⟩ va).setCell ⟨w.heap.size, 1, none⟩ vb).cell? ⟨w.heap.size, 0, none⟩ = some va ∧ ((wr.setCell ⟨w.heap.size, 0, none⟩ va).setCell ⟨w.heap.size, 1, none⟩ vb).cell? ⟨w.heap.size, 1, none⟩ = some vb from fun va vb => by
        have hC : Chg (fun k => k = w.heap.size) wr ((wr.setCell ⟨w.heap.size, 0, none⟩ va).setCell ⟨w.heap.size, 1, none⟩ vb) := Chg.set (S := fun k => k = w.heap.size) (Chg.set (S := fun k => k = w.heap.size) (Chg.refl _ _) (.inl rfl) _) (.inl rfl) _
        have hA := HEO.out.oA
        rw [hal] at hA
        exact ⟨⟨HEO.out.tn.is.chg hC (fun k hk e => HEO.out.rb.2 (e ▸ hk)), HEO.out.tn.chg.trans hC (fun k e => .inr (by omega)), HEO.out.tn.grow⟩, owns_base (by omega) (owns_chg hA hC (fun g hg e => by have := owns_lt hA hg; omega)), fun g hg => (HEO.out.nA g hg).1, owns_base (by omega) (owns_chg HEO.out.oT hC (fun g hg e => by have := owns_lt HEO.out.oT hg; omega)), fun g hg => (HEO.out.nT g hg).1,
          HEO.out.vs.turn (fun g hs hl => ⟨hC.block g hl (fun e => by have := hs.2.2.2.2.1; omega), hs.1⟩), (other (by simp)).trans (same cr0), same ((other (by simp)).trans cr1)⟩)
      clear hrb hx0 hx1 HEO'
      go_wp2
      obtain ⟨q1, q2, q3, q4, q5, q6, q7, q8⟩ := HFN.out (.slice pA (objL s).length cA) (.slice pT (objL s).length cT)
      refine bodyPost_ret (v := .agg #[.slice pA (objL s).length cA, .slice pT (objL s).length cT]) (by simp [results, Tryz.results11, go_sem, q7, q8]) rfl ⟨pA, cA, pT, cT, vs, d', rfl, q1, q2, q3, q4, q5, q6⟩
end Go.Proofs.YtpcgmkchflmcmaaGreatDoor.Tr
