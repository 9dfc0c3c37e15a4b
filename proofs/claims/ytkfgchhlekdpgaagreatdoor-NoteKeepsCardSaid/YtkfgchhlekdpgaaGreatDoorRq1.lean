/-
  Texts of the heap, one behind the other: RfA RfB RfC RfD RfE.
-/
import Derived.Test.YtkfgchhlekdpgaaGreatDoorHq1
import Derived.Test.YtkfgchhlekdpgaaGreatDoorLs2
import Derived.Laws.OwnMore
import Derived.Test.YtkfgchhlekdpgaaGreatDoorHq5
import Derived.Test.YtkfgchhlekdpgaaGreatDoorAdc
namespace Go.Proofs.YtkfgchhlekdpgaaGreatDoor.Rf
open Go.RowKit
open Blk (Cfg)
open Go.Proofs.YtkfgchhlekdpgaaGreatDoor.Row (Chg Rd rowB rowB_none cell_of_block frozen_of_block)

/-- A slot of the document's: its address, class, what it is, its color, whether it is begun, its fields, and where these lie. -/
structure Sl where
  a : Int
  k : Int
  is : Int
  co : Int
  bg : Bool
  fs : List Int
  p : Option Addr
  cap : Nat
def slC (x : Sl) : List Value := [.int .i64 x.a, .int .i64 x.k, .int .i64 x.is, .int .i64 x.co, .bool x.bg, .slice x.p x.fs.length x.cap]
def cellsS (l : List Sl) : List Value := l.flatMap slC
theorem slC_len (x : Sl) : (slC x).length = 6 := rfl
theorem cellsS_len (l : List Sl) : (cellsS l).length = l.length * 6 := by
  induction l with
  | nil => rfl
  | cons x l ih => simp only [cellsS, List.flatMap_cons, List.length_append, slC_len, List.length_cons] at ih ⊢; omega
theorem cellsS_snoc (l : List Sl) (x : Sl) : cellsS (l ++ [x]) = cellsS l ++ slC x := by simp [cellsS]
theorem cellsS_at {l : List Sl} {j t : Nat} (ht : t < 6) {x : Sl} (hx : l[j]? = some x) : (cellsS l)[j * 6 + t]? = (slC x)[t]? := by
  induction l generalizing j with
  | nil => simp at hx
  | cons y l ih =>
    cases j with
    | zero =>
      simp only [List.getElem?_cons_zero, Option.some.injEq] at hx
      subst hx
      simp only [cellsS, List.flatMap_cons, Nat.zero_mul, Nat.zero_add]
      rw [List.getElem?_append_left (by rw [slC_len]; exact ht)]
    | succ j =>
      simp only [List.getElem?_cons_succ] at hx
      have := ih hx
      simp only [cellsS, List.flatMap_cons] at this ⊢
      rw [List.getElem?_append_right (by rw [slC_len]; omega), slC_len, ← this]
      congr 1
      omega
theorem cellsS_set {l : List Sl} {j t : Nat} (ht : t < 6) {x x' : Sl} {v : Value} (hx : l[j]? = some x) (he : slC x' = (slC x).set t v) : cellsS (l.set j x') = (cellsS l).set (j * 6 + t) v := by
  induction l generalizing j with
  | nil => simp at hx
  | cons y l ih =>
    cases j with
    | zero =>
      simp only [List.getElem?_cons_zero, Option.some.injEq] at hx
      subst hx
      simp only [cellsS, List.set_cons_zero, List.flatMap_cons, Nat.zero_mul, Nat.zero_add]
      rw [he, List.set_append_left _ _ (by rw [slC_len]; exact ht)]
    | succ j =>
      simp only [List.getElem?_cons_succ] at hx
      have := ih hx
      simp only [cellsS, List.set_cons_succ, List.flatMap_cons] at this ⊢
      rw [this, List.set_append_right _ _ (by rw [slC_len]; omega), slC_len]
      congr 2
      omega

/-- Where the document's heap lies. -/
structure Ri where
  sl : List Sl
  ps : Option Addr
  cap : Nat
  fp : Nat → Option Addr
  fc : Nat → Nat
  Cb : Nat
  cc : Nat
/-- The blocks that turn. -/
def Wr (M : Nat) (i : Ri) (k : Nat) : Prop := k = M ∨ k = i.Cb ∨ rowB i.ps k
/-- Those that are only read. -/
def Re (i : Ri) (k : Nat) : Prop := (∃ j, j < 4 ∧ rowB (i.fp j) k) ∨ ∃ x ∈ i.sl, rowB x.p k
def All (M : Nat) (i : Ri) (k : Nat) : Prop := Wr M i k ∨ Re i k

structure RfIs (w : World) (M base : Nat) (i : Ri) (c : Cfg) (u : Nat) (fl : Nat → List Int) (ce : List Int) : Prop where
  b0 : w.cell? ⟨M, 0, none⟩ = some (.int .i64 c.b)
  b1 : w.cell? ⟨M, 1, none⟩ = some (.int .i64 c.wd)
  b2 : w.cell? ⟨M, 2, none⟩ = some (.int .i64 c.m)
  b3 : w.cell? ⟨M, 3, none⟩ = some (.int .i64 c.r)
  b4 : w.cell? ⟨M, 4, none⟩ = some (.int .i64 c.ce)
  b5 : w.cell? ⟨M, 5, none⟩ = some (.int .i64 c.lg)
  b6 : w.cell? ⟨M, 6, none⟩ = some (.int .i64 c.st)
  cU : w.cell? ⟨M, 7, none⟩ = some (.int .i64 (u : Nat))
  cS : w.cell? ⟨M, 8, none⟩ = some (.slice i.ps i.sl.length i.cap)
  cF : ∀ k, k < 4 → w.cell? ⟨M, 9 + k, none⟩ = some (.slice (i.fp k) (fl k).length (i.fc k))
  cE : w.cell? ⟨M, 13, none⟩ = some (.slice (some ⟨i.Cb, 0, none⟩) ce.length i.cc)
  fz : ∀ o, o < 14 → w.frozen? ⟨M, o, none⟩ = false
  own : w.ownsRow base 228 6 (.slice i.ps i.sl.length i.cap) i.sl.length (cellsS i.sl)
  fr : ∀ k, k < 4 → Rd w (i.fp k) (fl k)
  fcap : ∀ k, k < 4 → (fl k).length ≤ i.fc k
  flds : ∀ x ∈ i.sl, Rd w x.p x.fs
  cells : ∀ j, j < ce.length → w.cell? ⟨i.Cb, j, none⟩ = some (.int .i64 (ce.getD j 0))
  cfz : ∀ j, j < ce.length → w.frozen? ⟨i.Cb, j, none⟩ = false
  ltC : i.Cb < w.heap.size
  lt : ∀ k, Re i k → k < w.heap.size
  nd : M ≠ i.Cb ∧ ¬ rowB i.ps M ∧ ¬ rowB i.ps i.Cb
  ap : ∀ k, Re i k → ¬ Wr M i k
  bs : ∀ k, Wr M i k → base ≤ k

section
variable {w w' : World} {M base : Nat} {i : Ri} {c : Cfg} {u : Nat} {fl : Nat → List Int} {ce : List Int}
theorem RfIs.ltM (h : RfIs w M base i c u fl ce) : M < w.heap.size := World.block_lt_of_cell? w _ h.b0
theorem RfIs.ltS (h : RfIs w M base i c u fl ce) {g : Nat} (hg : rowB i.ps g) : base ≤ g ∧ g < w.heap.size := h.own.lt g ((Row.ownBlock_slice ..).2 hg)
theorem RfIs.ltA (h : RfIs w M base i c u fl ce) {k : Nat} (hk : All M i k) : k < w.heap.size := by
  have := h.ltM; have := h.ltC
  rcases hk with (rfl | rfl | e) | e
  · assumption
  · assumption
  · exact (h.ltS e).2
  · exact h.lt k e
theorem rd_kept {p : Option Addr} {l : List Int} (h : Rd w p l) (hg : ∀ g, rowB p g → w'.heap[g]? = w.heap[g]?) : Rd w' p l := h.kept fun g e _ => hg g e
theorem own_kept {n cap size : Nat} {e : TypeId} {p : Option Addr} {xs : List Value} (h : w.ownsRow base e size (.slice p n cap) n xs) (hg : ∀ g, rowB p g → w'.heap[g]? = w.heap[g]?) : w'.ownsRow base e size (.slice p n cap) n xs := Row.owns_block h hg
theorem RfIs.kept (h : RfIs w M base i c u fl ce) (hk : ∀ k, All M i k → w'.heap[k]? = w.heap[k]?) (hs : w.heap.size ≤ w'.heap.size) : RfIs w' M base i c u fl ce := by
  have cM : ∀ o, w'.cell? ⟨M, o, none⟩ = w.cell? ⟨M, o, none⟩ := fun o => cell_of_block (a := ⟨M, o, none⟩) (hk M (.inl (.inl rfl)))
  have fM : ∀ o, w'.frozen? ⟨M, o, none⟩ = w.frozen? ⟨M, o, none⟩ := fun o => frozen_of_block (a := ⟨M, o, none⟩) (hk M (.inl (.inl rfl)))
  have cC : ∀ o, w'.cell? ⟨i.Cb, o, none⟩ = w.cell? ⟨i.Cb, o, none⟩ := fun o => cell_of_block (a := ⟨i.Cb, o, none⟩) (hk i.Cb (.inl (.inr (.inl rfl))))
  have fC : ∀ o, w'.frozen? ⟨i.Cb, o, none⟩ = w.frozen? ⟨i.Cb, o, none⟩ := fun o => frozen_of_block (a := ⟨i.Cb, o, none⟩) (hk i.Cb (.inl (.inr (.inl rfl))))
  exact ⟨(cM 0).trans h.b0, (cM 1).trans h.b1, (cM 2).trans h.b2, (cM 3).trans h.b3, (cM 4).trans h.b4, (cM 5).trans h.b5, (cM 6).trans h.b6, (cM 7).trans h.cU, (cM 8).trans h.cS, fun k e => (cM (9 + k)).trans (h.cF k e), (cM 13).trans h.cE,
    fun o e => (fM o).trans (h.fz o e), own_kept h.own (fun g e => hk g (.inl (.inr (.inr e)))), fun k e => rd_kept (h.fr k e) (fun g e2 => hk g (.inr (.inl ⟨k, e, e2⟩))), h.fcap, fun x e => rd_kept (h.flds x e) (fun g e2 => hk g (.inr (.inr ⟨x, e, e2⟩))),
    fun j e => (cC j).trans (h.cells j e), fun j e => (fC j).trans (h.cfz j e), Nat.lt_of_lt_of_le h.ltC hs, fun k e => Nat.lt_of_lt_of_le (h.lt k e) hs, h.nd, h.ap, h.bs⟩
theorem RfIs.later (h : RfIs w M base i c u fl ce) (hb : Below w.heap.size w w') : RfIs w' M base i c u fl ce := h.kept (fun k hk => hb.block k (h.ltA hk)) hb.size
theorem RfIs.chg {S : Nat → Prop} (h : RfIs w M base i c u fl ce) (hc : Chg S w w') (hS : ∀ k, All M i k → ¬ S k) : RfIs w' M base i c u fl ce := h.kept (fun k hk => hc.block k (h.ltA hk) (hS k hk)) hc.size
theorem RfIs.drewN (h : RfIs w M base i c u fl ce) (n : Nat) : RfIs (w.drewN n) M base i c u fl ce := h.kept (fun _ _ => rfl) (Nat.le_refl _)
/-- One slot's cells. -/
theorem RfIs.slot (h : RfIs w M base i c u fl ce) {j : Nat} {x : Sl} (hx : i.sl[j]? = some x) : ∃ g, i.ps = some ⟨g, 0, none⟩ ∧ (∀ t, t < 6 → w.cell? ⟨g, j * 6 + t, none⟩ = (slC x)[t]?) ∧ ∀ o, w.frozen? ⟨g, o, none⟩ = false := by
  have hj : j < i.sl.length := (List.getElem?_eq_some_iff.1 hx).1
  have ho := h.own
  obtain ⟨g, cap, e⟩ : ∃ g cap, Value.slice i.ps i.sl.length i.cap = .slice (some ⟨g, 0, none⟩) i.sl.length cap := by
    rcases ho.2 with ⟨_, h2⟩ | ⟨g, cap, _, h2, _⟩
    · omega
    · exact ⟨g, cap, h2⟩
  rw [e] at ho
  refine ⟨g, (Value.slice.inj e).1, fun t ht => ?_, fun o => ho.frozenAt o⟩
  rw [ho.cellAt _ (by omega), cellsS_at ht hx]
end
end Go.Proofs.YtkfgchhlekdpgaaGreatDoor.Rf

namespace Go.Proofs.YtkfgchhlekdpgaaGreatDoor.Rf
open Go.RowKit
open Blk (Cfg)
open Go.Proofs.YtkfgchhlekdpgaaGreatDoor.Row (Chg Rd rowB rowB_none cell_of_block frozen_of_block other same)

section
variable {w w' : World} {M base : Nat} {i : Ri} {c : Cfg} {u : Nat} {fl : Nat → List Int} {ce : List Int}
theorem heap_set {w : World} {a : Addr} {v : Value} {k : Nat} (h : k ≠ a.block) : (w.setCell a v).heap[k]? = w.heap[k]? := Below.heap_setCell _ _ _ _ h
theorem mem_set {l : List Sl} {j : Nat} {x' y : Sl} (h : y ∈ l.set j x') : y ∈ l ∨ y = x' := by
  obtain ⟨n, hn⟩ := List.getElem?_of_mem h
  by_cases e : j = n
  · subst e
    rw [List.getElem?_set] at hn
    simp only [if_true] at hn
    split at hn
    · exact .inr (Option.some.inj hn).symm
    · cases hn
  · rw [List.getElem?_set_ne e] at hn
    exact .inl (List.mem_of_getElem? hn)
/-- A cell of a slot laid. -/
theorem RfIs.setSlot (h : RfIs w M base i c u fl ce) {j t g : Nat} {x x' : Sl} {v : Value} (hg : i.ps = some ⟨g, 0, none⟩) (hx : i.sl[j]? = some x) (ht : t < 6) (he : slC x' = (slC x).set t v) (hrd : Rd w x'.p x'.fs) (hn : ∀ k, rowB x'.p k → k < w.heap.size ∧ ¬ Wr M i k) :
    RfIs (w.setCell ⟨g, j * 6 + t, none⟩ v) M base { i with sl := i.sl.set j x' } c u fl ce ∧ Chg (Wr M i) w (w.setCell ⟨g, j * 6 + t, none⟩ v) ∧ ∀ k, All M { i with sl := i.sl.set j x' } k → All M i k ∨ ∃ k', k' = k ∧ rowB x'.p k := by
  have hrg : rowB i.ps g := by rw [hg]; rfl
  have hw : Wr M i g := .inr (.inr hrg)
  have hMg : M ≠ g := fun e => h.nd.2.1 (e ▸ hrg)
  have hCg : i.Cb ≠ g := fun e => h.nd.2.2 (e ▸ hrg)
  have hk : ∀ k, k ≠ g → (w.setCell ⟨g, j * 6 + t, none⟩ v).heap[k]? = w.heap[k]? := fun k e => heap_set e
  have hs : (w.setCell ⟨g, j * 6 + t, none⟩ v).heap.size = w.heap.size := Row.size_setCell ..
  have cM : ∀ o, (w.setCell ⟨g, j * 6 + t, none⟩ v).cell? ⟨M, o, none⟩ = w.cell? ⟨M, o, none⟩ := fun o => cell_of_block (a := ⟨M, o, none⟩) (hk M hMg)
  have fM : ∀ o, (w.setCell ⟨g, j * 6 + t, none⟩ v).frozen? ⟨M, o, none⟩ = w.frozen? ⟨M, o, none⟩ := fun o => frozen_of_block (a := ⟨M, o, none⟩) (hk M hMg)
  have cC : ∀ o, (w.setCell ⟨g, j * 6 + t, none⟩ v).cell? ⟨i.Cb, o, none⟩ = w.cell? ⟨i.Cb, o, none⟩ := fun o => cell_of_block (a := ⟨i.Cb, o, none⟩) (hk i.Cb hCg)
  have fC : ∀ o, (w.setCell ⟨g, j * 6 + t, none⟩ v).frozen? ⟨i.Cb, o, none⟩ = w.frozen? ⟨i.Cb, o, none⟩ := fun o => frozen_of_block (a := ⟨i.Cb, o, none⟩) (hk i.Cb hCg)
  have hnot : ∀ k, Re i k → k ≠ g := fun k e e2 => h.ap k e (e2 ▸ hw)
  have hre : ∀ k, Re { i with sl := i.sl.set j x' } k → Re i k ∨ rowB x'.p k := by
    rintro k (e | ⟨y, hy, e⟩)
    · exact .inl (.inl e)
    · rcases mem_set hy with hy | rfl
      · exact .inl (.inr ⟨y, hy, e⟩)
      · exact .inr e
  have ho := h.own
  rw [hg] at ho
  have hlen : (i.sl.set j x').length = i.sl.length := List.length_set ..
  refine ⟨⟨(cM 0).trans h.b0, (cM 1).trans h.b1, (cM 2).trans h.b2, (cM 3).trans h.b3, (cM 4).trans h.b4, (cM 5).trans h.b5, (cM 6).trans h.b6, (cM 7).trans h.cU, ?_, fun k e => (cM (9 + k)).trans (h.cF k e), (cM 13).trans h.cE,
    fun o e => (fM o).trans (h.fz o e), ?_, fun k e => rd_kept (h.fr k e) (fun g' e2 => hk g' (hnot g' (.inl ⟨k, e, e2⟩))), h.fcap, ?_,
    fun j e => (cC j).trans (h.cells j e), fun j e => (fC j).trans (h.cfz j e), Nat.lt_of_lt_of_eq h.ltC hs.symm, fun k e => ?_, h.nd, fun k e => ?_, h.bs⟩, Chg.set (S := Wr M i) (Chg.refl _ _) (.inl hw) _, fun k e => ?_⟩
  · show _ = some (Value.slice i.ps (i.sl.set j x').length i.cap)
    rw [hlen]; exact (cM 8).trans h.cS
  · show (w.setCell ⟨g, j * 6 + t, none⟩ v).ownsRow base 228 6 (.slice i.ps (i.sl.set j x').length i.cap) (i.sl.set j x').length (cellsS (i.sl.set j x'))
    rw [hlen, hg, cellsS_set ht hx he]
    exact (ho.stored _ _).1
  · intro y hy
    rcases mem_set hy with hy | rfl
    · exact rd_kept (h.flds y hy) (fun g' e2 => hk g' (hnot g' (.inr ⟨y, hy, e2⟩)))
    · exact rd_kept hrd (fun g' e2 => hk g' (fun e => (hn g' e2).2 (e ▸ hw)))
  · rw [hs]
    rcases hre k e with e | e
    · exact h.lt k e
    · exact (hn k e).1
  · rcases hre k e with e | e
    · exact h.ap k e
    · exact (hn k e).2
  · rcases e with e | e
    · exact .inl (.inl e)
    · rcases hre k e with e | e
      · exact .inl (.inr e)
      · exact .inr ⟨k, rfl, e⟩
/-- A number, or the mark, of a slot laid. -/
theorem RfIs.setNum (h : RfIs w M base i c u fl ce) {j t g : Nat} {x x' : Sl} {v : Value} (hg : i.ps = some ⟨g, 0, none⟩) (hx : i.sl[j]? = some x) (ht : t < 6) (he : slC x' = (slC x).set t v) (hp : x'.p = x.p) (hf : x'.fs = x.fs) :
    RfIs (w.setCell ⟨g, j * 6 + t, none⟩ v) M base { i with sl := i.sl.set j x' } c u fl ce ∧ Chg (Wr M i) w (w.setCell ⟨g, j * 6 + t, none⟩ v) ∧ ∀ k, All M { i with sl := i.sl.set j x' } k → All M i k := by
  have hm : x ∈ i.sl := List.mem_of_getElem? hx
  obtain ⟨h1, h2, h3⟩ := h.setSlot (x' := x') (v := v) hg hx ht he (by rw [hp, hf]; exact h.flds x hm) (fun k e => by rw [hp] at e; exact ⟨h.lt k (.inr ⟨x, hm, e⟩), h.ap k (.inr ⟨x, hm, e⟩)⟩)
  refine ⟨h1, h2, fun k e => ?_⟩
  rcases h3 k e with e | ⟨_, _, e⟩
  · exact e
  · rw [hp] at e; exact .inr (.inr ⟨x, hm, e⟩)
/-- A cell of the record laid: how many blocks are used. -/
theorem RfIs.setUsed (h : RfIs w M base i c u fl ce) (u' : Nat) : RfIs (w.setCell ⟨M, 7, none⟩ (.int .i64 (u' : Nat))) M base i c u' fl ce ∧ Chg (Wr M i) w (w.setCell ⟨M, 7, none⟩ (.int .i64 (u' : Nat))) := by
  have hk : ∀ k, k ≠ M → (w.setCell ⟨M, 7, none⟩ (.int .i64 (u' : Nat))).heap[k]? = w.heap[k]? := fun k e => heap_set e
  have hs : (w.setCell ⟨M, 7, none⟩ (.int .i64 (u' : Nat))).heap.size = w.heap.size := Row.size_setCell ..
  have cC : ∀ o, (w.setCell ⟨M, 7, none⟩ (.int .i64 (u' : Nat))).cell? ⟨i.Cb, o, none⟩ = w.cell? ⟨i.Cb, o, none⟩ := fun o => cell_of_block (a := ⟨i.Cb, o, none⟩) (hk i.Cb (Ne.symm h.nd.1))
  have fC : ∀ o, (w.setCell ⟨M, 7, none⟩ (.int .i64 (u' : Nat))).frozen? ⟨i.Cb, o, none⟩ = w.frozen? ⟨i.Cb, o, none⟩ := fun o => frozen_of_block (a := ⟨i.Cb, o, none⟩) (hk i.Cb (Ne.symm h.nd.1))
  have hnot : ∀ k, Re i k → k ≠ M := fun k e e2 => h.ap k e (.inl e2)
  exact ⟨⟨(other (by simp)).trans h.b0, (other (by simp)).trans h.b1, (other (by simp)).trans h.b2, (other (by simp)).trans h.b3, (other (by simp)).trans h.b4, (other (by simp)).trans h.b5, (other (by simp)).trans h.b6, same h.cU, (other (by simp)).trans h.cS,
    fun k e => (other (by first | (simp; done) | (simp; omega))).trans (h.cF k e), (other (by simp)).trans h.cE, fun o e => (World.frozen?_setCell ..).trans (h.fz o e), own_kept h.own (fun g e => hk g (fun e2 => h.nd.2.1 (e2 ▸ e))),
    fun k e => rd_kept (h.fr k e) (fun g e2 => hk g (hnot g (.inl ⟨k, e, e2⟩))), h.fcap, fun x e => rd_kept (h.flds x e) (fun g e2 => hk g (hnot g (.inr ⟨x, e, e2⟩))), fun j e => (cC j).trans (h.cells j e), fun j e => (fC j).trans (h.cfz j e),
    Nat.lt_of_lt_of_eq h.ltC hs.symm, fun k e => Nat.lt_of_lt_of_eq (h.lt k e) hs.symm, h.nd, h.ap, h.bs⟩, Chg.set (S := Wr M i) (Chg.refl _ _) (.inl (.inl rfl)) _⟩
/-- A free list laid. -/
def updF (fl : Nat → List Int) (k : Nat) (l : List Int) : Nat → List Int := fun j => if j = k then l else fl j
theorem updF_same {fl : Nat → List Int} {k : Nat} {l : List Int} : updF fl k l k = l := if_pos rfl
theorem updF_other {fl : Nat → List Int} {k j : Nat} {l : List Int} (h : j ≠ k) : updF fl k l j = fl j := if_neg h
theorem RfIs.setFree (h : RfIs w M base i c u fl ce) {k cap : Nat} {p : Option Addr} {l : List Int} (hk4 : k < 4) (hrd : Rd w p l) (hcap : l.length ≤ cap) (hn : ∀ g, rowB p g → g < w.heap.size ∧ ¬ Wr M i g) :
    RfIs (w.setCell ⟨M, 9 + k, none⟩ (.slice p l.length cap)) M base { i with fp := fun j => if j = k then p else i.fp j, fc := fun j => if j = k then cap else i.fc j } c u (updF fl k l) ce ∧ Chg (Wr M i) w (w.setCell ⟨M, 9 + k, none⟩ (.slice p l.length cap)) ∧
      ∀ g, All M { i with fp := fun j => if j = k then p else i.fp j, fc := fun j => if j = k then cap else i.fc j } g → All M i g ∨ rowB p g := by
  have hk : ∀ k', k' ≠ M → (w.setCell ⟨M, 9 + k, none⟩ (.slice p l.length cap)).heap[k']? = w.heap[k']? := fun k e => heap_set e
  have hs : (w.setCell ⟨M, 9 + k, none⟩ (.slice p l.length cap)).heap.size = w.heap.size := Row.size_setCell ..
  have cC : ∀ o, (w.setCell ⟨M, 9 + k, none⟩ (.slice p l.length cap)).cell? ⟨i.Cb, o, none⟩ = w.cell? ⟨i.Cb, o, none⟩ := fun o => cell_of_block (a := ⟨i.Cb, o, none⟩) (hk i.Cb (Ne.symm h.nd.1))
  have fC : ∀ o, (w.setCell ⟨M, 9 + k, none⟩ (.slice p l.length cap)).frozen? ⟨i.Cb, o, none⟩ = w.frozen? ⟨i.Cb, o, none⟩ := fun o => frozen_of_block (a := ⟨i.Cb, o, none⟩) (hk i.Cb (Ne.symm h.nd.1))
  have hnot : ∀ k, Re i k → k ≠ M := fun k e e2 => h.ap k e (.inl e2)
  have hre : ∀ g, Re { i with fp := fun j => if j = k then p else i.fp j, fc := fun j => if j = k then cap else i.fc j } g → Re i g ∨ rowB p g := by
    rintro g (⟨j, hj, e⟩ | ⟨y, hy, e⟩)
    · simp only at e
      split at e
      · exact .inr e
      · exact .inl (.inl ⟨j, hj, e⟩)
    · exact .inl (.inr ⟨y, hy, e⟩)
  refine ⟨⟨(other (by first | (simp; done) | (simp; omega))).trans h.b0, (other (by first | (simp; done) | (simp; omega))).trans h.b1, (other (by first | (simp; done) | (simp; omega))).trans h.b2, (other (by first | (simp; done) | (simp; omega))).trans h.b3, (other (by first | (simp; done) | (simp; omega))).trans h.b4, (other (by first | (simp; done) | (simp; omega))).trans h.b5, (other (by first | (simp; done) | (simp; omega))).trans h.b6, (other (by first | (simp; done) | (simp; omega))).trans h.cU, (other (by first | (simp; done) | (simp; omega))).trans h.cS,
    fun j e => ?_, (other (by first | (simp; done) | (simp; omega))).trans h.cE, fun o e => (World.frozen?_setCell ..).trans (h.fz o e), own_kept h.own (fun g e => hk g (fun e2 => h.nd.2.1 (e2 ▸ e))),
    fun j e => ?_, fun j e => ?_, fun x e => rd_kept (h.flds x e) (fun g e2 => hk g (hnot g (.inr ⟨x, e, e2⟩))), fun j e => (cC j).trans (h.cells j e), fun j e => (fC j).trans (h.cfz j e),
    Nat.lt_of_lt_of_eq h.ltC hs.symm, fun g e => ?_, h.nd, fun g e => ?_, h.bs⟩, Chg.set (S := Wr M i) (Chg.refl _ _) (.inl (.inl rfl)) _, fun g e => ?_⟩
  · by_cases e2 : j = k
    · subst e2
      simp only [if_true, updF_same]
      exact same (h.cF j e)
    · simp only [if_neg e2, updF_other e2]
      exact (other (by first | (simp; done) | (simp; omega))).trans (h.cF j e)
  · by_cases e2 : j = k
    · subst e2
      simp only [if_true, updF_same]
      exact rd_kept hrd (fun g e3 => hk g (fun e4 => (hn g e3).2 (.inl e4)))
    · simp only [if_neg e2, updF_other e2]
      exact rd_kept (h.fr j e) (fun g e2 => hk g (hnot g (.inl ⟨j, e, e2⟩)))
  · by_cases e2 : j = k
    · subst e2
      simp only [if_true, updF_same]
      exact hcap
    · simp only [if_neg e2, updF_other e2]
      exact h.fcap j e
  · rw [hs]
    rcases hre g e with e | e
    · exact h.lt g e
    · exact (hn g e).1
  · rcases hre g e with e | e
    · exact h.ap g e
    · exact (hn g e).2
  · rcases e with e | e
    · exact .inl (.inl e)
    · rcases hre g e with e | e
      · exact .inl (.inr e)
      · exact .inr e
/-- A cell laid. -/
theorem RfIs.setCell' (h : RfIs w M base i c u fl ce) {j : Nat} (hj : j < ce.length) (v : Int) : RfIs (w.setCell ⟨i.Cb, j, none⟩ (.int .i64 v)) M base i c u fl (ce.set j v) ∧ Chg (Wr M i) w (w.setCell ⟨i.Cb, j, none⟩ (.int .i64 v)) := by
  have hk : ∀ k, k ≠ i.Cb → (w.setCell ⟨i.Cb, j, none⟩ (.int .i64 v)).heap[k]? = w.heap[k]? := fun k e => heap_set e
  have hs : (w.setCell ⟨i.Cb, j, none⟩ (.int .i64 v)).heap.size = w.heap.size := Row.size_setCell ..
  have cM : ∀ o, (w.setCell ⟨i.Cb, j, none⟩ (.int .i64 v)).cell? ⟨M, o, none⟩ = w.cell? ⟨M, o, none⟩ := fun o => cell_of_block (a := ⟨M, o, none⟩) (hk M h.nd.1)
  have hnot : ∀ k, Re i k → k ≠ i.Cb := fun k e e2 => h.ap k e (.inr (.inl e2))
  have hl : (ce.set j v).length = ce.length := List.length_set ..
  refine ⟨⟨(cM 0).trans h.b0, (cM 1).trans h.b1, (cM 2).trans h.b2, (cM 3).trans h.b3, (cM 4).trans h.b4, (cM 5).trans h.b5, (cM 6).trans h.b6, (cM 7).trans h.cU, (cM 8).trans h.cS,
    fun k e => (cM (9 + k)).trans (h.cF k e), by rw [hl]; exact (cM 13).trans h.cE, fun o e => (World.frozen?_setCell ..).trans (h.fz o e), own_kept h.own (fun g e => hk g (fun e2 => h.nd.2.2 (e2 ▸ e))),
    fun k e => rd_kept (h.fr k e) (fun g e2 => hk g (hnot g (.inl ⟨k, e, e2⟩))), h.fcap, fun x e => rd_kept (h.flds x e) (fun g e2 => hk g (hnot g (.inr ⟨x, e, e2⟩))), fun n e => ?_, fun n e => ?_,
    Nat.lt_of_lt_of_eq h.ltC hs.symm, fun k e => Nat.lt_of_lt_of_eq (h.lt k e) hs.symm, h.nd, h.ap, h.bs⟩, Chg.set (S := Wr M i) (Chg.refl _ _) (.inl (.inr (.inl rfl))) _⟩
  · rw [hl] at e
    by_cases e2 : n = j
    · subst e2
      rw [same (h.cells n e)]
      simp [List.getD_eq_getElem?_getD, e]
    · rw [other (by first | (simp; done) | (simp; omega)), h.cells n e]
      simp [List.getD_eq_getElem?_getD, Ne.symm e2]
  · rw [hl] at e
    rw [World.frozen?_setCell]; exact h.cfz n e
/-- The slots' row after an append, and the record's slice laid. -/
theorem RfIs.grow {Y0 w3 : World} {v' : Value} {x : Sl} (h : RfIs w M base i c u fl ce) (hb : Below w.heap.size w Y0) (hbase : base ≤ w.heap.size)
    (hown : w3.ownsRow base 228 6 v' (i.sl.length + 1) (cellsS i.sl ++ slC x)) (hg : Y0.grownBy w3 (Value.slice i.ps i.sl.length i.cap).ownBlock)
    (hat : v'.ownBlock = (Value.slice i.ps i.sl.length i.cap).ownBlock ∨ v'.ownBlock = some Y0.heap.size) (hx : x.p = none) (hxf : x.fs = []) :
    ∃ p' cap', v' = .slice p' (i.sl.length + 1) cap' ∧ RfIs (w3.setCell ⟨M, 8, none⟩ v') M base { i with sl := i.sl ++ [x], ps := p', cap := cap' } c u fl ce ∧ Chg (Wr M i) w (w3.setCell ⟨M, 8, none⟩ v') ∧
      (∀ k, All M { i with sl := i.sl ++ [x], ps := p', cap := cap' } k → All M i k ∨ w.heap.size ≤ k) ∧ w3.cell? ⟨M, 8, none⟩ = some (.slice i.ps i.sl.length i.cap) ∧ w3.frozen? ⟨M, 8, none⟩ = false := by
  obtain ⟨p', cap', rfl⟩ : ∃ p' cap', v' = .slice p' (i.sl.length + 1) cap' := by
    rcases hown.2 with ⟨h2, h3⟩ | ⟨g, c, cur, e1, _⟩
    · omega
    · exact ⟨_, _, e1⟩
  have hC : Chg (rowB i.ps) w w3 := ⟨hg.os.trans hb.os, hg.tape.trans hb.tape, hg.output.trans hb.output, Nat.le_trans hb.size hg.size, fun k hk hn =>
    (hg.block k (Nat.lt_of_lt_of_le hk hb.size) (fun e => hn ((Row.ownBlock_slice i.ps i.sl.length i.cap k).1 e.symm))).trans (hb.block k hk)⟩
  have hR : ∀ k, rowB p' k → rowB i.ps k ∨ w.heap.size ≤ k := fun k hk => by
    rcases hat with h | h
    · exact .inl ((Row.ownBlock_slice i.ps i.sl.length i.cap k).1 (h ▸ (Row.ownBlock_slice p' (i.sl.length + 1) cap' k).2 hk))
    · right
      have := (Row.ownBlock_slice p' (i.sl.length + 1) cap' k).2 hk
      rw [h] at this
      have := Option.some.inj this
      have := hb.size
      omega
  have hlM := h.ltM
  have hlC := h.ltC
  have hMp : ¬ rowB p' M := fun e => (hR M e).elim h.nd.2.1 (by omega)
  have hCp : ¬ rowB p' i.Cb := fun e => (hR _ e).elim h.nd.2.2 (by omega)
  have k3 : ∀ k, k < w.heap.size → ¬ rowB i.ps k → w3.heap[k]? = w.heap[k]? := fun k hk hn => hC.block k hk hn
  have kM3 : w3.heap[M]? = w.heap[M]? := k3 M hlM h.nd.2.1
  have c3 : ∀ o, w3.cell? ⟨M, o, none⟩ = w.cell? ⟨M, o, none⟩ := fun o => cell_of_block (a := ⟨M, o, none⟩) kM3
  have f3 : ∀ o, w3.frozen? ⟨M, o, none⟩ = w.frozen? ⟨M, o, none⟩ := fun o => frozen_of_block (a := ⟨M, o, none⟩) kM3
  have hk : ∀ k, k < w.heap.size → ¬ rowB i.ps k → k ≠ M → (w3.setCell ⟨M, 8, none⟩ (.slice p' (i.sl.length + 1) cap')).heap[k]? = w.heap[k]? := fun k e e2 e3 => (heap_set e3).trans (k3 k e e2)
  have hs : w.heap.size ≤ (w3.setCell ⟨M, 8, none⟩ (.slice p' (i.sl.length + 1) cap')).heap.size := by rw [Row.size_setCell]; exact hC.size
  have hkC := hk i.Cb hlC h.nd.2.2 (Ne.symm h.nd.1)
  have cC : ∀ o, (w3.setCell ⟨M, 8, none⟩ (.slice p' (i.sl.length + 1) cap')).cell? ⟨i.Cb, o, none⟩ = w.cell? ⟨i.Cb, o, none⟩ := fun o => cell_of_block (a := ⟨i.Cb, o, none⟩) hkC
  have fC : ∀ o, (w3.setCell ⟨M, 8, none⟩ (.slice p' (i.sl.length + 1) cap')).frozen? ⟨i.Cb, o, none⟩ = w.frozen? ⟨i.Cb, o, none⟩ := fun o => frozen_of_block (a := ⟨i.Cb, o, none⟩) hkC
  have hlen : (i.sl ++ [x]).length = i.sl.length + 1 := by simp
  have hre : ∀ k, Re { i with sl := i.sl ++ [x], ps := p', cap := cap' } k → Re i k := by
    rintro k (e | ⟨y, hy, e⟩)
    · exact .inl e
    · rcases List.mem_append.1 hy with hy | hy
      · exact .inr ⟨y, hy, e⟩
      · rw [List.mem_singleton] at hy
        rw [hy, hx] at e
        exact absurd e (rowB_none k)
  have hrk : ∀ k, Re i k → k < w.heap.size ∧ ¬ rowB i.ps k ∧ k ≠ M := fun k e => ⟨h.lt k e, fun e2 => h.ap k e (.inr (.inr e2)), fun e2 => h.ap k e (.inl e2)⟩
  refine ⟨p', cap', rfl, ⟨((other (by simp)).trans (c3 0)).trans h.b0, ((other (by simp)).trans (c3 1)).trans h.b1, ((other (by simp)).trans (c3 2)).trans h.b2, ((other (by simp)).trans (c3 3)).trans h.b3, ((other (by simp)).trans (c3 4)).trans h.b4, ((other (by simp)).trans (c3 5)).trans h.b5, ((other (by simp)).trans (c3 6)).trans h.b6, ((other (by simp)).trans (c3 7)).trans h.cU, ?_,
    fun k e => ((other (by first | (simp; done) | (simp; omega))).trans (c3 (9 + k))).trans (h.cF k e), ((other (by simp)).trans (c3 13)).trans h.cE, fun o e => ((World.frozen?_setCell ..).trans (f3 o)).trans (h.fz o e), ?_,
    fun k e => rd_kept (h.fr k e) (fun g e2 => have t := hrk g (.inl ⟨k, e, e2⟩); hk g t.1 t.2.1 t.2.2), h.fcap, fun y e => ?_, fun n e => (cC n).trans (h.cells n e), fun n e => (fC n).trans (h.cfz n e),
    Nat.lt_of_lt_of_le hlC hs, fun k e => Nat.lt_of_lt_of_le (h.lt k (hre k e)) hs, ⟨h.nd.1, hMp, hCp⟩, fun k e e2 => ?_, fun k e => ?_⟩, Chg.set (S := Wr M i) (hC.mono fun _ e => .inr (.inr e)) (.inl (.inl rfl)) _, fun k e => ?_, (c3 8).trans h.cS, (f3 8).trans (h.fz 8 (by omega))⟩
  · show _ = some (Value.slice p' (i.sl ++ [x]).length cap')
    rw [hlen]; exact same ((c3 8).trans h.cS)
  · show (w3.setCell ⟨M, 8, none⟩ (.slice p' (i.sl.length + 1) cap')).ownsRow base _ 6 (.slice p' (i.sl ++ [x]).length cap') (i.sl ++ [x]).length (cellsS (i.sl ++ [x]))
    rw [hlen, cellsS_snoc]
    exact own_kept hown (fun g e => heap_set (fun e2 => hMp (by rw [← (show g = M from e2)]; exact e)))
  · rcases List.mem_append.1 e with e | e
    · exact rd_kept (h.flds y e) (fun g e2 => have t := hrk g (.inr ⟨y, e, e2⟩); hk g t.1 t.2.1 t.2.2)
    · rw [List.mem_singleton] at e
      subst e
      rw [hx, hxf]
      exact Rd.nil _
  · have t := hrk k (hre k e)
    rcases e2 with e2 | e2 | e2
    · exact h.ap k (hre k e) (.inl e2)
    · exact h.ap k (hre k e) (.inr (.inl e2))
    · rcases hR k e2 with e3 | e3
      · exact t.2.1 e3
      · omega
  · rcases e with e | e | e
    · exact h.bs k (.inl e)
    · exact h.bs k (.inr (.inl e))
    · rcases hR k e with e3 | e3
      · exact h.bs k (.inr (.inr e3))
      · omega
  · rcases e with (e | e | e) | e
    · exact .inl (.inl (.inl e))
    · exact .inl (.inl (.inr (.inl e)))
    · rcases hR k e with e3 | e3
      · exact .inl (.inl (.inr (.inr e3)))
      · exact .inr e3
    · exact .inl (.inr (hre k e))
end
end Go.Proofs.YtkfgchhlekdpgaaGreatDoor.Rf

namespace Go.Proofs.YtkfgchhlekdpgaaGreatDoor.Rf
open Go.RowKit
open Blk (Cfg allP kAt valA)
open Class (quiet_left)
open Lis (intsN)
open Hp (St Wf own cls wdA bn fr bnI frI bnI_nat frI_nat mem_allP allP_sorted nSl)
open Go.Proofs.YtkfgchhlekdpgaaGreatDoor.Row (Chg Rd rowB rowB_none cell_of_block frozen_of_block other same)

/-- What a slot is, by the document. -/
def stI (s : St) (a : Int) : Int := if bnI s a = true then 2 else if frI s a = true then 1 else 0
/-- An object's fields. -/
def fldL (s : St) (a : Nat) : List Int := (List.range (Hdr.obF (wdA s a))).map fun f => ((Arena.wd s.ws (a + f) : Nat) : Int)
structure SlOk (s : St) (x : Sl) : Prop where
  k : x.k = (cls s x.a : Nat)
  is : x.is = stI s x.a
  co : bnI s x.a = true → x.co = if hasB s.os x.a.toNat = true then 1 else 0
  bg : x.bg = Hdr.isOb (wdA s x.a.toNat)
  fs : x.bg = true → x.fs = fldL s x.a.toNat
  lo : x.bg = true → ∀ z ∈ x.fs, z ≤ 1048576
/-- The document's heap lies in memory, and says what a heap has. -/
structure Rp (w : World) (M base : Nat) (i : Ri) (s : St) : Prop where
  mem : RfIs w M base i s.c s.ks.length (fun k => intsN (s.hv k)) s.ce
  adr : i.sl.map (fun x => x.a) = allP s.c s.ks s.ks.length
  ok : ∀ x ∈ i.sl, SlOk s x
  wf : Wf s
  k4 : ∀ j, kAt s.ks j < 4

section
variable {w w' : World} {M base : Nat} {i : Ri} {s : St}
theorem Rp.later (h : Rp w M base i s) (hb : Below w.heap.size w w') : Rp w' M base i s := ⟨h.mem.later hb, h.adr, h.ok, h.wf, h.k4⟩
theorem Rp.chg {S : Nat → Prop} (h : Rp w M base i s) (hc : Chg S w w') (hS : ∀ k, All M i k → ¬ S k) : Rp w' M base i s := ⟨h.mem.chg hc hS, h.adr, h.ok, h.wf, h.k4⟩
theorem Rp.drewN (h : Rp w M base i s) (n : Nat) : Rp (w.drewN n) M base i s := ⟨h.mem.drewN n, h.adr, h.ok, h.wf, h.k4⟩
theorem Rp.own_of (h : Rp w M base i s) {x : Sl} (hx : x ∈ i.sl) : own s x.a = true := by
  have : x.a ∈ i.sl.map (fun x => x.a) := List.mem_map_of_mem hx
  rw [h.adr] at this
  exact (mem_allP h.wf h.k4).1 this
theorem Rp.pos (h : Rp w M base i s) {a : Int} (ho : own s a = true) : ∃ (j : Nat) (x : Sl), i.sl[j]? = some x ∧ x.a = a ∧ ∀ (j' : Nat) (x' : Sl), j' < j → i.sl[j']? = some x' → x'.a ≠ a := by
  have hm : a ∈ i.sl.map (fun x => x.a) := by rw [h.adr]; exact (mem_allP h.wf h.k4).2 ho
  obtain ⟨x, hx, hxa⟩ := List.mem_map.1 hm
  obtain ⟨j, hj⟩ := List.getElem?_of_mem hx
  refine ⟨j, x, hj, hxa, fun j' x' hlt hj' e => ?_⟩
  have hp : (i.sl.map (fun x => x.a)).Pairwise (· < ·) := by rw [h.adr]; exact allP_sorted h.wf h.k4
  have h1 := (List.getElem?_eq_some_iff.1 hj')
  have h2 := (List.getElem?_eq_some_iff.1 hj)
  have := List.pairwise_iff_getElem.1 hp j' j (by simpa using h1.1) (by simpa using h2.1) hlt
  simp only [List.getElem_map] at this
  rw [h1.2, h2.2, e, hxa] at this
  omega
theorem Rp.nopos (h : Rp w M base i s) {a : Int} (ho : own s a = false) : ∀ x ∈ i.sl, x.a ≠ a := fun x hx e => by
  have := h.own_of hx
  rw [e, ho] at this
  cases this
/-- Two of one address are the same. -/
theorem Rp.inj (h : Rp w M base i s) {j j' : Nat} {x x' : Sl} (hj : i.sl[j]? = some x) (hj' : i.sl[j']? = some x') (e : x.a = x'.a) : j = j' := by
  have hp : (i.sl.map (fun x => x.a)).Pairwise (· < ·) := by rw [h.adr]; exact allP_sorted h.wf h.k4
  have h1 := (List.getElem?_eq_some_iff.1 hj)
  have h2 := (List.getElem?_eq_some_iff.1 hj')
  rcases Nat.lt_trichotomy j j' with hl | hl | hl
  · have := List.pairwise_iff_getElem.1 hp j j' (by simpa using h1.1) (by simpa using h2.1) hl
    simp only [List.getElem_map] at this
    rw [h1.2, h2.2] at this
    omega
  · exact hl
  · have := List.pairwise_iff_getElem.1 hp j' j (by simpa using h2.1) (by simpa using h1.1) hl
    simp only [List.getElem_map] at this
    rw [h1.2, h2.2] at this
    omega
end

section
variable {M base : Nat} {i : Ri} {c : Cfg} {u : Nat} {fl : Nat → List Int} {ce : List Int}
theorem at_yes {j : Nat} {x : Sl} {a : Int} (w : World) (h : RfIs w M base i c u fl ce) (hx : i.sl[j]? = some x) (ha : x.a = a) (hf : ∀ (j' : Nat) (x' : Sl), j' < j → i.sl[j']? = some x' → x'.a ≠ a) :
    Calls Tryz.prog 177 #[.pointer (some ⟨M, 0, none⟩), .int .i64 a] w fun e w' => e = .returned (.int .i64 j) ∧ w = w' := by
  have c8 := h.cS
  have hj := (List.getElem?_eq_some_iff.1 hx).1
  have hcap := Row.owns_cap h.own
  obtain ⟨g, hg, _, _⟩ := h.slot hx
  have hcells : ∀ d y, i.sl[d]? = some y → w.cell? ⟨g, d * 6, none⟩ = some (.int .i64 y.a) := fun d y hy => by
    obtain ⟨g', hg', hcl, _⟩ := h.slot hy
    have : g' = g := by rw [hg] at hg'; cases hg'; rfl
    subst this
    exact hcl 0 (by omega)
  rw [hg] at c8
  unfold maxLen at hcap
  have hn : i.sl.length ≤ 9223372036854775807 := by omega
  have HC := Lib.hid hcells
  have HX := Lib.hid hx
  have HF := Lib.hid hf
  clear h hcap hcells hx hf hg
  generalize i.sl.length = n at *
  go_enter Tryz.func177, Tryz.ntmps177
  go_wp2
  go_loop [5] (fun v => ∃ d : Nat, d ≤ j ∧ v = .int .i64 d) (fun v => n - (intOf v).toNat)
  case atStart => exact ⟨0, Nat.zero_le _, rfl⟩
  case round =>
    obtain ⟨d, hd, rfl⟩ := hrel
    have d1 : (d : Int) < (n : Int) := by omega
    have d0 : (0 : Int) ≤ (d : Int) := Int.natCast_nonneg _
    by_cases e : d = j
    · subst e
      have hcd := HC.out d x HX.out
      have he : (x.a == a) = true := by simpa using ha
      go_wp2
      go_ret
      exact ⟨rfl, rfl⟩
    · obtain ⟨y, hy⟩ : ∃ y, i.sl[d]? = some y := by
        have := (List.getElem?_eq_some_iff.1 HX.out).1
        exact ⟨_, List.getElem?_eq_getElem (by omega)⟩
      have hcd := HC.out d y hy
      have hne : (y.a == a) = false := by simpa using HF.out d y (by omega) hy
      clear hy ha
      go_wp2
      go_round
      case rel => exact ⟨d + 1, by omega, by go_num⟩
      case measure => simp [intOf]; omega
theorem at_no {a : Int} (w : World) (h : RfIs w M base i c u fl ce) (hf : ∀ x ∈ i.sl, x.a ≠ a) :
    Calls Tryz.prog 177 #[.pointer (some ⟨M, 0, none⟩), .int .i64 a] w fun e w' => e = .returned (.int .i64 (-1)) ∧ w = w' := by
  have c8 := h.cS
  have hcap := Row.owns_cap h.own
  have hcells : ∀ d y, i.sl[d]? = some y → ∃ g, i.ps = some ⟨g, 0, none⟩ ∧ w.cell? ⟨g, d * 6, none⟩ = some (.int .i64 y.a) := fun d y hy => by
    obtain ⟨g', hg', hcl, _⟩ := h.slot hy
    exact ⟨g', hg', hcl 0 (by omega)⟩
  unfold maxLen at hcap
  have hn : i.sl.length ≤ 9223372036854775807 := by omega
  have hget : ∀ d, d < i.sl.length → ∃ y, i.sl[d]? = some y ∧ y.a ≠ a := fun d hd => ⟨_, List.getElem?_eq_getElem hd, hf _ (List.getElem_mem hd)⟩
  have HC := Lib.hid hcells
  have HG := Lib.hid hget
  clear h hcap hcells hf hget
  generalize i.sl.length = n at *
  generalize i.ps = p at *
  go_enter Tryz.func177, Tryz.ntmps177
  go_wp2
  go_loop [5] (fun v => ∃ d : Nat, d ≤ n ∧ v = .int .i64 d) (fun v => n - (intOf v).toNat)
  case atStart => exact ⟨0, Nat.zero_le _, rfl⟩
  case round =>
    obtain ⟨d, hd, rfl⟩ := hrel
    have d0 : (0 : Int) ≤ (d : Int) := Int.natCast_nonneg _
    by_cases e : d < n
    · have d1 : (d : Int) < (n : Int) := by omega
      obtain ⟨y, hy, hya⟩ := HG.out d e
      obtain ⟨g, rfl, hcd⟩ := HC.out d y hy
      have hne : (y.a == a) = false := by simpa using hya
      clear hy hya
      go_wp2
      go_round
      case rel => exact ⟨d + 1, by omega, by go_num⟩
      case measure => simp [intOf]; omega
    · have d1 : ¬ (d : Int) < (n : Int) := by omega
      go_wp2
      go_ret
      exact ⟨rfl, rfl⟩
end
/-- What an address is. -/
def isV (s : St) (a : Int) : Int := if own s a = true then stI s a else -1
theorem is_any {w : World} {M base : Nat} {i : Ri} {s : St} (a : Int) (h : Rp w M base i s) :
    Calls Tryz.prog 176 #[.pointer (some ⟨M, 0, none⟩), .int .i64 a] w fun e w' => e = .returned (.int .i64 (isV s a)) ∧ w = w' := by
  cases ho : own s a with
  | true =>
    obtain ⟨j, x, hx, hxa, hf⟩ := h.pos ho
    have hi : isV s a = x.is := by unfold isV; rw [if_pos ho, (h.ok x (List.mem_of_getElem? hx)).is, hxa]
    rw [hi]
    have HAT := Lib.hid (at_yes w h.mem hx hxa hf)
    obtain ⟨g, hg, hcl, _⟩ := h.mem.slot hx
    have hc2 : w.cell? ⟨g, j * 6 + 2, none⟩ = some (.int .i64 x.is) := hcl 2 (by omega)
    have c8 := h.mem.cS
    rw [hg] at c8
    have hj := (List.getElem?_eq_some_iff.1 hx).1
    have j1 : (j : Int) < (i.sl.length : Int) := by omega
    have j0 : (0 : Int) ≤ (j : Int) := Int.natCast_nonneg _
    clear h hx hxa hf hi hcl hg ho
    generalize i.sl.length = n at *
    generalize x.is = v at *
    go_enter Tryz.func176, Tryz.ntmps176
    go_wp2_with (go_at_call 177; refine HAT.out.mono ?_; rintro e w' ⟨rfl, rfl⟩)
    go_ret
    exact ⟨rfl, rfl⟩
  | false =>
    have hi : isV s a = -1 := by unfold isV; rw [ho]; rfl
    rw [hi]
    have HAT := Lib.hid (at_no w h.mem (h.nopos ho))
    clear h hi ho
    go_enter Tryz.func176, Tryz.ntmps176
    go_wp2_with (go_at_call 177; refine HAT.out.mono ?_; rintro e w' ⟨rfl, rfl⟩)
    go_ret
    exact ⟨rfl, rfl⟩
end Go.Proofs.YtkfgchhlekdpgaaGreatDoor.Rf

namespace Go.Proofs.YtkfgchhlekdpgaaGreatDoor.Rf
open Go.RowKit
open Blk (Cfg allP kAt valA)
open Class (isB isB_true sizI sizI_bd roomI roomI_yes)
open Lis (intsN upd upd_same upd_other)
open Hp (St Wf own cls wdA bn fr bnI frI bnI_nat frI_nat mem_allP allP_sorted nSl stS beS baS puS unS frS zr asS handB fr_true fr_false freL mem_freL)
open Go.Proofs.YtkfgchhlekdpgaaGreatDoor.Row (Chg Rd rowB rowB_none cell_of_block frozen_of_block other same)

theorem SlOk.frame {s s' : St} {y : Sl} (h : SlOk s y) (h1 : cls s' y.a = cls s y.a) (h2 : bnI s' y.a = bnI s y.a) (h3 : frI s' y.a = frI s y.a) (h4 : hasB s'.os y.a.toNat = hasB s.os y.a.toNat) (h5 : wdA s' y.a.toNat = wdA s y.a.toNat)
    (h6 : Hdr.isOb (wdA s y.a.toNat) = true → fldL s' y.a.toNat = fldL s y.a.toNat) : SlOk s' y :=
  ⟨by rw [h1]; exact h.k, by rw [h.is]; unfold stI; rw [h2, h3], by rw [h2, h4]; exact h.co, by rw [h5]; exact h.bg, fun e => by rw [h.fs e]; exact (h6 (by rw [← h.bg]; exact e)).symm, h.lo⟩

theorem own_room {s : St} (h : Wf s) {b : Nat} (hb : own s b = true) (hi : Hdr.isOb (wdA s b) = true) : (Hdr.obF (wdA s b) : Int) + 1 ≤ sizI (cls s b) := by
  have h1 := (Hdr.isOb_room hi).1
  rw [h.room b hb hi, roomI_yes (h.geo hb).cl] at h1
  omega
/-- Words laid in one slot: those of all other slots stay. -/
theorem words_frame {s : St} (h : Wf s) {a b : Nat} {ws : List Nat} (ha : own s a = true) (hb : own s b = true) (hne : b ≠ a) (hch : ∀ j : Nat, ¬ (a - 1 ≤ j ∧ (j : Int) < ((a - 1 : Nat) : Int) + sizI (cls s a)) → Arena.wd ws j = Arena.wd s.ws j) :
    Arena.wd ws (b - 1) = wdA s b ∧ (Hdr.isOb (wdA s b) = true → fldL { s with ws := ws } b = fldL s b) := by
  have ga := h.in_ws ha
  have gb := h.in_ws hb
  have key : ∀ f : Nat, (f : Int) < sizI (cls s b) → Arena.wd ws (b - 1 + f) = Arena.wd s.ws (b - 1 + f) := fun f hf => hch _ fun hj => by
    have := h.apart (a := (b : Int)) (b := (a : Int)) hb ha (i := f) (j := ((b - 1 + f - (a - 1) : Nat) : Int)) (by omega) (by omega) hf (by omega) (by omega)
    omega
  have k0 := key 0 (by omega)
  refine ⟨k0, fun hi => ?_⟩
  have hr := own_room h hb hi
  have e0 : wdA { s with ws := ws } b = wdA s b := k0
  unfold fldL
  rw [e0]
  apply List.map_congr_left
  intro f hf
  have hf2 := List.mem_range.1 hf
  have := key (f + 1) (by omega)
  rw [show b - 1 + (f + 1) = b + f from by omega] at this
  rw [this]

section
variable {w w' : World} {M base : Nat} {i i' : Ri} {s s' : St} {j : Nat} {x x' : Sl}
theorem Rp.turn (h : Rp w M base i s) (hx : i.sl[j]? = some x) (hsl : i'.sl = i.sl.set j x') (ha : x'.a = x.a) (hm : RfIs w' M base i' s'.c s'.ks.length (fun k => intsN (s'.hv k)) s'.ce) (hc : s'.c = s.c) (hks : s'.ks = s.ks) (hw : Wf s')
    (hx' : SlOk s' x') (hfr : ∀ y : Sl, own s y.a = true → y.a ≠ x.a → SlOk s y → SlOk s' y) : Rp w' M base i' s' := by
  refine ⟨hm, ?_, fun y hy => ?_, hw, by rw [hks]; exact h.k4⟩
  · rw [hsl, hc, hks, ← h.adr, List.map_set, ha]
    apply List.ext_getElem
    · simp
    · intro n h1 h2
      rw [List.getElem_set]
      split
      · next e =>
        subst e
        have := (List.getElem?_eq_some_iff.1 hx).2
        simp only [List.getElem_map, this]
      · rfl
  · rw [hsl] at hy
    obtain ⟨n, hn⟩ := List.getElem?_of_mem hy
    by_cases e : j = n
    · subst e
      have hj := (List.getElem?_eq_some_iff.1 hx).1
      rw [List.getElem?_set_self hj] at hn
      cases hn
      exact hx'
    · rw [List.getElem?_set_ne e] at hn
      have hm := List.mem_of_getElem? hn
      exact hfr y (h.own_of hm) (fun e2 => e (h.inj hx hn e2.symm)) (h.ok y hm)
/-- A slot's number. -/
theorem own_nat {s : St} (h : Wf s) {a : Int} (ho : own s a = true) : ∃ n : Nat, a = n ∧ 1 ≤ n ∧ n ≤ s.ws.length := by
  obtain ⟨h1, h2⟩ := h.own_bd ho
  exact ⟨a.toNat, by omega, by omega, by omega⟩
end

/-! Take. -/
theorem take_frame {s : St} {k a : Nat} {l : List Nat} (he : s.hv k = a :: l) (y : Sl) (hne : y.a ≠ (a : Int)) (hy : SlOk s y) : SlOk { s with hv := upd s.hv k l } y := by
  refine hy.frame rfl rfl ?_ rfl rfl (fun _ => rfl)
  have key : ∀ j, (y.a.toNat ∈ (upd s.hv k l) j ↔ y.a.toNat ∈ s.hv j) ∨ y.a < 0 := fun j => by
    by_cases h0 : y.a < 0
    · exact .inr h0
    · left
      by_cases e : j = k
      · subst e
        rw [upd_same, he, List.mem_cons]
        constructor
        · exact .inr
        · rintro (e | e)
          · omega
          · exact e
      · rw [upd_other _ _ e]
  unfold frI
  by_cases h0 : 0 ≤ y.a
  · have : ∀ j, (y.a.toNat ∈ (upd s.hv k l) j ↔ y.a.toNat ∈ s.hv j) := fun j => (key j).resolve_right (by omega)
    simp only [fr, this]
  · simp [h0]
theorem fr_once {s : St} (hnd : (freL s).Nodup) {k a : Nat} {l : List Nat} (hk : k < 4) (he : s.hv k = a :: l) : fr { s with hv := upd s.hv k l } a = false := by
  rw [fr_false]
  intro j hj
  show a ∉ upd s.hv k l j
  simp only [freL, intsN, List.nodup_append, List.mem_append, List.mem_map] at hnd
  obtain ⟨n0, ⟨n1, ⟨n2, n3, d23⟩, d1⟩, d0⟩ := hnd
  have inj : ∀ l' : List Nat, (l'.map fun n => ((n : Nat) : Int)).Nodup → l'.Nodup := fun l' h' => by
    unfold List.Nodup at h' ⊢
    rw [List.pairwise_map] at h'
    exact h'.imp (fun h e => h (by rw [e]))
  have m0 := inj _ n0
  have m1 := inj _ n1
  have m2 := inj _ n2
  have m3 := inj _ n3
  have e01 : ∀ x, x ∈ s.hv 0 → x ∈ s.hv 1 → False := fun x p q => d0 _ ⟨x, p, rfl⟩ _ (.inl ⟨x, q, rfl⟩) rfl
  have e02 : ∀ x, x ∈ s.hv 0 → x ∈ s.hv 2 → False := fun x p q => d0 _ ⟨x, p, rfl⟩ _ (.inr (.inl ⟨x, q, rfl⟩)) rfl
  have e03 : ∀ x, x ∈ s.hv 0 → x ∈ s.hv 3 → False := fun x p q => d0 _ ⟨x, p, rfl⟩ _ (.inr (.inr ⟨x, q, rfl⟩)) rfl
  have e12 : ∀ x, x ∈ s.hv 1 → x ∈ s.hv 2 → False := fun x p q => d1 _ ⟨x, p, rfl⟩ _ (.inl ⟨x, q, rfl⟩) rfl
  have e13 : ∀ x, x ∈ s.hv 1 → x ∈ s.hv 3 → False := fun x p q => d1 _ ⟨x, p, rfl⟩ _ (.inr ⟨x, q, rfl⟩) rfl
  have e23 : ∀ x, x ∈ s.hv 2 → x ∈ s.hv 3 → False := fun x p q => d23 _ ⟨x, p, rfl⟩ _ ⟨x, q, rfl⟩ rfl
  have hin : a ∈ s.hv k := by rw [he]; simp
  have hnk : a ∉ l := by
    have : (s.hv k).Nodup := by
      have : k = 0 ∨ k = 1 ∨ k = 2 ∨ k = 3 := by omega
      rcases this with rfl | rfl | rfl | rfl <;> assumption
    rw [he, List.nodup_cons] at this
    exact this.1
  by_cases e : j = k
  · subst e
    rw [upd_same]
    exact hnk
  · rw [upd_other _ _ e]
    intro hj2
    have c1 : j = 0 ∨ j = 1 ∨ j = 2 ∨ j = 3 := by omega
    have c2 : k = 0 ∨ k = 1 ∨ k = 2 ∨ k = 3 := by omega
    rcases c1 with rfl | rfl | rfl | rfl <;> rcases c2 with rfl | rfl | rfl | rfl <;>
      first
      | exact e rfl
      | exact e01 a hj2 hin
      | exact e01 a hin hj2
      | exact e02 a hj2 hin
      | exact e02 a hin hj2
      | exact e03 a hj2 hin
      | exact e03 a hin hj2
      | exact e12 a hj2 hin
      | exact e12 a hin hj2
      | exact e13 a hj2 hin
      | exact e13 a hin hj2
      | exact e23 a hj2 hin
      | exact e23 a hin hj2
theorem take_slot {s : St} (h : Wf s) (hnd : (freL s).Nodup) {k a : Nat} {l : List Nat} (hk : k < 4) (he : s.hv k = a :: l) {x : Sl} (hx : SlOk s x) (hxa : x.a = (a : Int)) : SlOk { s with hv := upd s.hv k l } { x with is := 0, bg := false } := by
  have hin : a ∈ s.hv k := by rw [he]; simp
  obtain ⟨f1, f2, f3, f4⟩ := h.free k hk a hin
  have hb : bnI { s with hv := upd s.hv k l } x.a = false := by rw [hxa, bnI_nat]; exact f3
  have hf : frI { s with hv := upd s.hv k l } x.a = false := by rw [hxa, frI_nat]; exact fr_once hnd hk he
  exact ⟨hx.k, by unfold stI; rw [hb, hf]; rfl, fun e => (by rw [hb] at e; cases e), by rw [hxa, Int.toNat_natCast]; exact f4.symm, (fun e => by cases e), fun e => by cases e⟩

/-! Put. -/
theorem put_frame {s : St} (h : Wf s) {a : Nat} (ha : own s a = true) (y : Sl) (ho : own s y.a = true) (hne : y.a ≠ (a : Int)) (hy : SlOk s y) : SlOk (puS s a) y := by
  obtain ⟨b, hb, _, _⟩ := own_nat h ho
  have ga := h.in_ws ha
  rw [hb] at ho
  have hne' : b ≠ a := fun e => hne (by rw [hb, e])
  have hwf := words_frame h ha ho hne' (ws := s.ws.set (a - 1) (Hdr.lk ((s.hv (cls s a)).headD 0))) (fun j hj => by
    rw [Arena.wd_set, if_neg (by omega)])
  refine hy.frame rfl rfl ?_ rfl ?_ ?_
  · rw [hb, frI_nat, frI_nat]
    have key : ∀ j, (b ∈ (puS s a).hv j ↔ b ∈ s.hv j) := fun j => by
      show b ∈ upd s.hv (cls s a) (a :: s.hv (cls s a)) j ↔ _
      by_cases e : j = cls s a
      · subst e; rw [upd_same, List.mem_cons]; exact ⟨fun e => e.resolve_left hne', .inr⟩
      · rw [upd_other _ _ e]
    simp only [fr, key]
  · rw [hb, Int.toNat_natCast]; exact hwf.1
  · rw [hb, Int.toNat_natCast]; exact hwf.2
theorem put_slot {s : St} {a : Nat} (hw' : Wf (puS s a)) (hk4 : cls s a < 4) {x : Sl} (hn : bn s a = false) (hx : SlOk s x) (hxa : x.a = (a : Int)) : SlOk (puS s a) { x with is := 1, bg := false } := by
  have hin : a ∈ (puS s a).hv (cls s a) := by show a ∈ upd s.hv (cls s a) (a :: s.hv (cls s a)) (cls s a); rw [upd_same]; simp
  have hb : bnI (puS s a) x.a = false := by rw [hxa, bnI_nat]; exact hn
  have hf : frI (puS s a) x.a = true := by rw [hxa, frI_nat]; exact fr_true.2 ⟨_, hk4, hin⟩
  exact ⟨hx.k, by unfold stI; rw [hb, hf]; rfl, fun e => (by rw [hb] at e; cases e), by rw [hxa, Int.toNat_natCast]; exact (hw'.free _ hk4 a hin).2.2.2.symm, (fun e => by cases e), fun e => by cases e⟩

/-- What a heap has besides, wherever it lies. -/
structure Pu (s : St) : Prop where
  nd : (freL s).Nodup
  sb : SetW (s.ws.length + 1) s.bs
  so : SetW (s.ws.length + 1) s.os
  len : ∀ k, k < 4 → (s.hv k).length ≤ 1000000
theorem pu_of {w : World} {H : Nat} {d : Hp.Ids} {s : St} {m : Nat} (h : Hp.Is w H d s m) (hm : m ≤ 1000000) : Pu s := ⟨Hp.freL_nodup h, h.born.row, h.ones.row, fun k hk => Nat.le_trans (h.cnt.2.2 k hk) hm⟩

/-! Bear. -/
theorem bear_frame {s : St} (hp : Pu s) {a : Nat} (ha : a ≤ s.ws.length) (c : Int) (y : Sl) (h0 : 0 ≤ y.a) (hne : y.a ≠ (a : Int)) (hy : SlOk s y) : SlOk (baS s a c) y := by
  have hne' : y.a.toNat ≠ a := fun e => hne (by omega)
  refine hy.frame rfl ?_ rfl ?_ rfl (fun _ => rfl)
  · show (decide (0 ≤ y.a) && hasB (Bits.putS (s.ws.length + 1) s.bs a true) y.a.toNat) = (decide (0 ≤ y.a) && hasB s.bs y.a.toNat)
    rw [Hp.putS_has hp.sb (by omega), if_neg hne']
  · show hasB (Bits.putS (s.ws.length + 1) s.os a (c == 1)) y.a.toNat = hasB s.os y.a.toNat
    rw [Hp.putS_has hp.so (by omega), if_neg hne']
theorem bear_slot {s : St} (hp : Pu s) {a : Nat} (ha : a ≤ s.ws.length) {c : Int} (hc : c = 0 ∨ c = 1) {x : Sl} (hx : SlOk s x) (hxa : x.a = (a : Int)) : SlOk (baS s a c) { x with is := 2, co := c } := by
  have hb : bnI (baS s a c) x.a = true := by
    rw [hxa, bnI_nat]
    show hasB (Bits.putS (s.ws.length + 1) s.bs a true) a = true
    rw [Hp.putS_has hp.sb (by omega), if_pos rfl]
  refine ⟨hx.k, by unfold stI; rw [hb]; rfl, fun _ => ?_, hx.bg, hx.fs, hx.lo⟩
  show c = if hasB (Bits.putS (s.ws.length + 1) s.os a (c == 1)) x.a.toNat = true then 1 else 0
  rw [hxa, Int.toNat_natCast, Hp.putS_has hp.so (by omega), if_pos rfl]
  rcases hc with rfl | rfl <;> rfl

/-! Free: no object any more. -/
theorem un_frame {s : St} (hp : Pu s) {a : Nat} (ha : a ≤ s.ws.length) (y : Sl) (h0 : 0 ≤ y.a) (hne : y.a ≠ (a : Int)) (hy : SlOk s y) : SlOk (unS s a) y := by
  have hne' : y.a.toNat ≠ a := fun e => hne (by omega)
  refine hy.frame rfl ?_ rfl rfl rfl (fun _ => rfl)
  show (decide (0 ≤ y.a) && hasB (Bits.putS (s.ws.length + 1) s.bs a false) y.a.toNat) = (decide (0 ≤ y.a) && hasB s.bs y.a.toNat)
  rw [Hp.putS_has hp.sb (by omega), if_neg hne']
theorem un_bn {s : St} (hp : Pu s) {a : Nat} (ha : a ≤ s.ws.length) : bn (unS s a) a = false := by
  show hasB (Bits.putS (s.ws.length + 1) s.bs a false) a = false
  rw [Hp.putS_has hp.sb (by omega), if_pos rfl]
theorem un_wf {s : St} (h : Wf s) (hp : Pu s) {a : Nat} (ha : a ≤ s.ws.length) : Wf (unS s a) := h.unbear (fun b => by rw [Hp.putS_has hp.sb (by omega)]; rfl)
theorem un_slot {s : St} (hp : Pu s) {a : Nat} (ha : a ≤ s.ws.length) (hf : fr s a = false) {x : Sl} (hx : SlOk s x) (hxa : x.a = (a : Int)) : SlOk (unS s a) { x with is := 0 } := by
  have hb : bnI (unS s a) x.a = false := by rw [hxa, bnI_nat]; exact un_bn hp ha
  have hf' : frI (unS s a) x.a = false := by rw [hxa, frI_nat]; exact hf
  exact ⟨hx.k, by unfold stI; rw [hb, hf']; rfl, fun e => (by rw [hb] at e; cases e), hx.bg, hx.fs, hx.lo⟩

/-! Store. -/
theorem store_frame {s : St} (h : Wf s) {a f v : Nat} (ha : own s a = true) (hf : (f : Int) + 1 < sizI (cls s a)) (y : Sl) (ho : own s y.a = true) (hne : y.a ≠ (a : Int)) (hy : SlOk s y) : SlOk (stS s a f v) y := by
  obtain ⟨b, hb, _, _⟩ := own_nat h ho
  have ga := h.in_ws ha
  rw [hb] at ho
  have hne' : b ≠ a := fun e => hne (by rw [hb, e])
  have hwf := words_frame h ha ho hne' (ws := s.ws.set (a + f) v) (fun j hj => by rw [Arena.wd_set, if_neg (by omega)])
  refine hy.frame rfl rfl rfl rfl ?_ ?_
  · rw [hb, Int.toNat_natCast]; exact hwf.1
  · rw [hb, Int.toNat_natCast]; exact hwf.2
theorem store_slot {s : St} (h : Wf s) {a f v : Nat} (ha : own s a = true) (hi : Hdr.isOb (wdA s a) = true) (hf : f < Hdr.obF (wdA s a)) (hv : v ≤ 1048576) {x : Sl} {p : Option Addr} {cap : Nat} (hx : SlOk s x) (hxa : x.a = (a : Int)) : SlOk (stS s a f v) { x with fs := (fldL s a).set f v, p := p, cap := cap } := by
  have ga := h.in_ws ha
  have hr := own_room h ha hi
  have hw0 : wdA (stS s a f v) a = wdA s a := Hp.wdA_st s (by omega)
  have hbg : x.bg = true := by rw [hx.bg, hxa, Int.toNat_natCast, hi]
  refine ⟨hx.k, hx.is, hx.co, ?_, fun _ => ?_, fun _ z hz => ?_⟩
  · show x.bg = _
    rw [hx.bg, hxa, Int.toNat_natCast, hw0]
  · show (fldL s a).set f v = fldL (stS s a f v) x.a.toNat
    rw [hxa, Int.toNat_natCast]
    unfold fldL
    rw [hw0]
    apply List.ext_getElem
    · simp
    · intro n h1 h2
      simp only [List.length_map, List.length_range] at h2
      rw [List.getElem_set]
      simp only [List.getElem_map, List.getElem_range]
      show _ = ((Arena.wd (s.ws.set (a + f) v) (a + n) : Nat) : Int)
      rw [Arena.wd_set]
      by_cases e : f = n
      · subst e
        rw [if_pos rfl, if_pos ⟨by omega, by omega⟩]
      · rw [if_neg e, if_neg (by omega)]
  · rcases List.mem_or_eq_of_mem_set hz with e | e
    · have e2 := hx.fs hbg
      rw [hxa, Int.toNat_natCast] at e2
      exact hx.lo hbg z (by rw [e2]; exact e)
    · rw [e]; omega

/-! Paint. -/
def paS (s : St) (a : Nat) (c : Int) : St := { s with os := Bits.putS (s.ws.length + 1) s.os a (c == 1) }
theorem paint_wf {s : St} (h : Wf s) (a : Nat) (c : Int) : Wf (paS s a c) := ⟨h.right, h.words, h.full, h.free, h.born, h.room, h.fresh⟩
theorem paint_frame {s : St} (hp : Pu s) {a : Nat} (ha : a ≤ s.ws.length) (c : Int) (y : Sl) (h0 : 0 ≤ y.a) (hne : y.a ≠ (a : Int)) (hy : SlOk s y) : SlOk (paS s a c) y := by
  have hne' : y.a.toNat ≠ a := fun e => hne (by omega)
  refine hy.frame rfl rfl rfl ?_ rfl (fun _ => rfl)
  show hasB (Bits.putS (s.ws.length + 1) s.os a (c == 1)) y.a.toNat = hasB s.os y.a.toNat
  rw [Hp.putS_has hp.so (by omega), if_neg hne']
theorem paint_slot {s : St} (hp : Pu s) {a : Nat} (ha : a ≤ s.ws.length) {c : Int} (hc : c = 0 ∨ c = 1) {x : Sl} (hx : SlOk s x) (hxa : x.a = (a : Int)) : SlOk (paS s a c) { x with co := c } := by
  refine ⟨hx.k, hx.is, fun _ => ?_, hx.bg, hx.fs, hx.lo⟩
  show c = if hasB (Bits.putS (s.ws.length + 1) s.os a (c == 1)) x.a.toNat = true then 1 else 0
  rw [hxa, Int.toNat_natCast, Hp.putS_has hp.so (by omega), if_pos rfl]
  rcases hc with rfl | rfl <;> rfl

/-! Begin: the header, and words that are 0 behind it. -/
def bzS (s : St) (a n : Nat) : St := zr (beS s a n) a n
theorem zr_out (s : St) (a : Nat) {k : Nat} : ∀ n, ¬ (a ≤ k ∧ k < a + n) → Arena.wd (zr s a n).ws k = Arena.wd s.ws k := by
  intro n
  induction n with
  | zero => intro _; rfl
  | succ n ih =>
    intro hk
    show Arena.wd ((zr s a n).ws.set (a + n) 0) k = _
    rw [Arena.wd_set, if_neg (by omega)]
    exact ih (by omega)
theorem begin_frame {s : St} (h : Wf s) {a n : Nat} (ha : own s a = true) (hn : (n : Int) + 1 ≤ sizI (cls s a)) (y : Sl) (ho : own s y.a = true) (hne : y.a ≠ (a : Int)) (hy : SlOk s y) : SlOk (bzS s a n) y := by
  obtain ⟨b, hb, _, _⟩ := own_nat h ho
  have ga := h.in_ws ha
  rw [hb] at ho
  have hne' : b ≠ a := fun e => hne (by rw [hb, e])
  obtain ⟨z1, z2, z3, z4, z5, z6, z7⟩ := Hp.zr_rest (beS s a n) a n
  have hz : bzS s a n = { s with ws := (bzS s a n).ws } := by
    show zr (beS s a n) a n = _
    have e : ∀ t t' : St, t.c = t'.c → t.ks = t'.ks → t.hv = t'.hv → t.bs = t'.bs → t.os = t'.os → t.ce = t'.ce → t = { t' with ws := t.ws } := by
      rintro ⟨⟩ ⟨⟩ h1 h2 h3 h4 h5 h6
      simp only at h1 h2 h3 h4 h5 h6
      subst h1 h2 h3 h4 h5 h6
      rfl
    exact e _ _ z1 z2 z3 z4 z5 z6
  have hwf := words_frame h ha ho hne' (ws := (bzS s a n).ws) (fun j hj => by
    show Arena.wd (zr (beS s a n) a n).ws j = _
    rw [zr_out _ _ n (by omega)]
    show Arena.wd (s.ws.set (a - 1) _) j = _
    rw [Arena.wd_set, if_neg (by omega)])
  rw [hz]
  refine hy.frame rfl rfl rfl rfl ?_ ?_
  · rw [hb, Int.toNat_natCast]; exact hwf.1
  · rw [hb, Int.toNat_natCast]; exact hwf.2
theorem begin_slot {s : St} (h : Wf s) {a n : Nat} (ha : own s a = true) (hok : Hdr.okB (cls s a : Nat) (n : Nat) = true) {x : Sl} {p : Option Addr} {cap : Nat} (hx : SlOk s x) (hxa : x.a = (a : Int)) :
    SlOk (bzS s a n) { x with bg := true, fs := List.replicate n 0, p := p, cap := cap } := by
  have ga := h.in_ws ha
  obtain ⟨o1, o2, o3⟩ := Hdr.okB_true.1 hok
  rw [roomI_yes o1] at o3
  obtain ⟨z1, z2, z3, z4, z5, z6, z7⟩ := Hp.zr_rest (beS s a n) a n
  have hw0 : wdA (bzS s a n) a = Hdr.obI (cls s a : Nat) (n : Nat) := (Hp.zr_wdA _ (by omega) n).trans (Hp.wdA_be (by omega) (by omega))
  obtain ⟨i1, i2, i3⟩ := Hdr.isOb_ob hok
  have hcl : cls (bzS s a n) x.a = cls s x.a := by unfold cls; rw [show (bzS s a n).c = s.c from z1, show (bzS s a n).ks = s.ks from z2]
  have hbn : bnI (bzS s a n) x.a = bnI s x.a := by unfold bnI bn; rw [show (bzS s a n).bs = s.bs from z4]
  have hfr : frI (bzS s a n) x.a = frI s x.a := by unfold frI fr; rw [show (bzS s a n).hv = s.hv from z3]
  refine ⟨by rw [hcl]; exact hx.k, by show x.is = _; rw [hx.is]; unfold stI; rw [hbn, hfr], by rw [hbn, show (bzS s a n).os = s.os from z5]; exact hx.co, by show true = _; rw [hxa, Int.toNat_natCast, hw0, i1], fun _ => ?_, fun _ z hz => by have := List.eq_of_mem_replicate hz; omega⟩
  show List.replicate n 0 = fldL (bzS s a n) x.a.toNat
  rw [hxa, Int.toNat_natCast]
  unfold fldL
  rw [hw0, i3]
  apply List.ext_getElem
  · simp
  · intro k h1 h2
    simp only [List.length_replicate] at h1
    simp only [List.getElem_replicate, List.getElem_map, List.getElem_range]
    have := Hp.zr_zero (beS s a n) a n (by show a + n ≤ (s.ws.set _ _).length; rw [List.length_set]; omega) n (Nat.le_refl _) k h1
    rw [show (bzS s a n).ws = (zr (beS s a n) a n).ws from rfl, this]
    rfl
end Go.Proofs.YtkfgchhlekdpgaaGreatDoor.Rf

namespace Go.Proofs.YtkfgchhlekdpgaaGreatDoor.Rf
open Go.RowKit
open Blk (Cfg allP kAt valA)
open Class (isB isB_true isB_false sizI sizI_bd roomI roomI_yes quiet_left refis_any refsize_any)
open Lis (intsN upd upd_same upd_other)
open Hp (St Wf own cls wdA bn fr bnI frI bnI_nat frI_nat mem_allP allP_sorted nSl stS beS baS puS unS frS zr asS handB fr_true fr_false freL mem_freL)
open Go.Proofs.YtkfgchhlekdpgaaGreatDoor.Row (Chg Rd rowB rowB_none cell_of_block frozen_of_block other same)

/-- The document's heap has turned: where it lies then. -/
def RTo (w w' : World) (M base : Nat) (i : Ri) (s : St) : Prop := ∃ i', Rp w' M base i' s ∧ Chg (All M i) w w' ∧ ∀ k, All M i' k → All M i k ∨ w.heap.size ≤ k
theorem RTo.of_below {w w' : World} {M base : Nat} {i : Ri} {s : St} (h : Rp w M base i s) (hb : Below w.heap.size w w') : RTo w w' M base i s := ⟨i, h.later hb, Chg.of_below hb, fun _ e => .inl e⟩
theorem RTo.trans {w w1 w2 : World} {M base : Nat} {i i1 : Ri} {s : St} (hc : Chg (All M i) w w1) (hR : ∀ k, All M i1 k → All M i k ∨ w.heap.size ≤ k) (h2 : RTo w1 w2 M base i1 s) : RTo w w2 M base i s := by
  obtain ⟨i2, h3, h4, h5⟩ := h2
  have hs := hc.size
  exact ⟨i2, h3, hc.trans h4 hR, fun k hk => (h5 k hk).elim (hR k) (fun e => .inr (by omega))⟩
theorem chg_all {w w' : World} {M : Nat} {i : Ri} (h : Chg (Wr M i) w w') : Chg (All M i) w w' := h.mono fun _ e => .inl e
theorem updF_ints (hv : Nat → List Nat) (k : Nat) (l : List Nat) : updF (fun j => intsN (hv j)) k (intsN l) = fun j => intsN (upd hv k l j) := by
  funext j
  unfold updF upd
  split <;> rfl

section
variable {M base : Nat} {i : Ri} {s : St}
theorem take_bad (k : Int) (w : World) (hk : isB k = false) : Calls Tryz.prog 169 #[.pointer (some ⟨M, 0, none⟩), .int .i64 k] w fun e w' => e = .returned (.tuple #[.int .i64 0, .int .i64 1]) ∧ w = w' := by
  go_enter Tryz.func169, Tryz.ntmps169
  go_wp2_with (go_at_call 147; refine (refis_any k _).mono ?_; rintro e w' ⟨rfl, rfl⟩; rw [hk])
  go_ret2
  exact ⟨rfl, rfl⟩
theorem isB_lt {k : Nat} (h : k < 4) : isB (k : Int) = true := isB_true.2 ⟨by omega, by omega⟩
theorem take_none (k : Nat) (w : World) (h : Rp w M base i s) (hk : k < 4) (he : s.hv k = []) : Calls Tryz.prog 169 #[.pointer (some ⟨M, 0, none⟩), .int .i64 k] w fun e w' => e = .returned (.tuple #[.int .i64 0, .int .i64 12]) ∧ w = w' := by
  have hB := isB_lt hk
  have hc := h.mem.cF k hk
  rw [he] at hc
  have hc' : w.cell? ⟨M, 9 + k, none⟩ = some (.slice (i.fp k) 0 (i.fc k)) := hc
  have k0 : (0 : Int) ≤ (k : Int) := Int.natCast_nonneg _
  have k4 : (k : Int) < 4 := by omega
  clear h he hc
  go_enter Tryz.func169, Tryz.ntmps169
  go_wp2_with (go_at_call 147; refine (refis_any k _).mono ?_; rintro e w' ⟨rfl, rfl⟩; rw [hB])
  go_ret2
  exact ⟨rfl, rfl⟩
set_option maxHeartbeats 2000000 in
theorem take_good (k a : Nat) (l : List Nat) (w : World) (h : Rp w M base i s) (hp : Pu s) (hk : k < 4) (he : s.hv k = a :: l) :
    Calls Tryz.prog 169 #[.pointer (some ⟨M, 0, none⟩), .int .i64 k] w fun e w' => e = .returned (.tuple #[.int .i64 a, .int .i64 0]) ∧ RTo w w' M base i { s with hv := upd s.hv k l } := by
  have hB := isB_lt hk
  have hc := h.mem.cF k hk
  have hf := h.mem.fz (9 + k) (by omega)
  have hrd := h.mem.fr k hk
  have hcap := h.mem.fcap k hk
  simp only [he] at hc hrd hcap
  have hlen : (intsN (a :: l)).length = l.length + 1 := by simp [intsN]
  rw [hlen] at hc hcap
  obtain ⟨fb, fo, hfp, hc0⟩ := hrd.at (j := 0) (by rw [hlen]; omega)
  have hc1 : w.cell? ⟨fb, fo, none⟩ = some (.int .i64 (a : Nat)) := hc0
  rw [hfp] at hc hrd
  have hown : own s (a : Int) = true := (h.wf.free k hk a (by rw [he]; simp)).1
  have k0 : (0 : Int) ≤ (k : Int) := Int.natCast_nonneg _
  have k4 : (k : Int) < 4 := by omega
  have hre : Re i fb := .inl ⟨k, hk, by rw [hfp]; rfl⟩
  have hfM : fb ≠ M := fun e => h.mem.ap fb hre (.inl e)
  have hrd1 : Rd w (some ⟨fb, fo + 1, none⟩) (intsN l) := .inr ⟨fb, fo + 1, rfl, fun j hj => by
    have hj' : j + 1 < (intsN (a :: l)).length := by rw [hlen]; simp [intsN] at hj; omega
    obtain ⟨g, o, e1, e2⟩ := hrd.at (j := j + 1) hj'
    cases e1
    rw [show fo + 1 + j = fo + (j + 1) from by omega, e2]
    simp [intsN, List.getD_eq_getElem?_getD]⟩
  have hbl : ∀ o g, rowB (some ⟨fb, o, none⟩) g → g < w.heap.size ∧ ¬ Wr M i g := fun o g e => by
    have : fb = g := by simpa [rowB] using e
    subst this
    exact ⟨h.mem.lt fb hre, h.mem.ap fb hre⟩
  have hll : (intsN l).length = l.length := by simp [intsN]
  have H := Lib.hid h
  have HFP := Lib.hid hfp
  by_cases hc1' : i.fc k = 1
  · have hl0 : l = [] := List.eq_nil_of_length_eq_zero (by omega)
    have hh := h.mem.setFree (k := k) (cap := 0) (p := some ⟨fb, fo, none⟩) (l := intsN []) hk (.inr ⟨fb, fo, rfl, fun j hj => by simp [intsN] at hj⟩) (by simp [intsN]) (hbl fo)
    rw [show (intsN ([] : List Nat)).length = 0 from rfl] at hh
    have HF := Lib.hid hh
    have HE := Lib.hid he
    clear hh h hc0 hrd hlen hrd1 hbl hll hre hcap he hfp
    rw [hc1'] at hc
    clear hc1'
    subst hl0
    have hc' : w.cell? ⟨M, 9 + k, none⟩ = some (.slice (some ⟨fb, fo, none⟩) 1 1) := hc
    clear hc
    go_enter Tryz.func169, Tryz.ntmps169
    go_wp2_with (go_at_call 147; refine (refis_any k _).mono ?_; rintro e w' ⟨rfl, rfl⟩; rw [hB])
    go_region
    generalize hW : World.drew _ = w1 at *
    have H1 := HF.out.1.drewN 1
    rw [updF_ints, show World.drewN _ 1 = w1 from hW] at H1
    have HC1 : Hid (Chg (Wr M i) w w1) := Lib.hid (by rw [← hW]; exact HF.out.2.1.drewN 1)
    have HA1 := HF.out.2.2
    obtain ⟨j, x, hx, hxa, hfst⟩ := H.out.pos hown
    obtain ⟨g, hg, hcl, hfz⟩ := H1.slot (j := j) (x := x) hx
    have c8 := H1.cS
    simp only at c8 hg
    rw [hg] at c8
    have hj := (List.getElem?_eq_some_iff.1 hx).1
    have j0 : (0 : Int) ≤ (j : Int) := Int.natCast_nonneg _
    have j1 : (j : Int) < (i.sl.length : Int) := by omega
    have q2 : w1.cell? ⟨g, j * 6 + 2, none⟩ = some (.int .i64 x.is) := hcl 2 (by omega)
    have q4 : w1.cell? ⟨g, j * 6 + 4, none⟩ = some (.bool x.bg) := hcl 4 (by omega)
    have f2 := hfz (j * 6 + 2)
    have f4 := hfz (j * 6 + 4)
    have H1' := Lib.hid H1
    have HX := Lib.hid hx
    have HXA := Lib.hid hxa
    have HFST := Lib.hid hfst
    have HG := Lib.hid hg
    have HHA := Lib.hid HA1
    clear hW H1 hcl hfz hx hxa hfst hg HA1 HF
    have HT : Hid (∀ nq : Nat, RTo w (((w1.drewN nq).setCell ⟨g, j * 6 + 2, none⟩ (.int .i64 0)).setCell ⟨g, j * 6 + 4, none⟩ (.bool false)) M base i { s with hv := upd s.hv k [] }) := Lib.hid fun nq => by
      obtain ⟨a1, a2, a3⟩ := (H1'.out.drewN nq).setNum (t := 2) (x' := { x with is := 0 }) HG.out HX.out (by omega) rfl rfl rfl
      obtain ⟨b1, b2, b3⟩ := a1.setNum (j := j) (t := 4) (x := { x with is := 0 }) (x' := { x with is := 0, bg := false }) HG.out (by rw [List.getElem?_set_self (by exact hj)]) (by omega) rfl rfl rfl
      have hsh : ∀ k', All M _ k' → All M i k' ∨ rowB (some ⟨fb, fo, none⟩) k' := fun k' e => HHA.out k' (a3 k' (b3 k' e))
      refine ⟨_, H.out.turn (s' := { s with hv := upd s.hv k [] }) HX.out (x' := { x with is := 0, bg := false }) ?_ rfl b1 rfl rfl (H.out.wf.take HE.out) (take_slot H.out.wf hp.nd hk HE.out (H.out.ok x (List.mem_of_getElem? HX.out)) HXA.out) (fun y _ hne hy => take_frame HE.out y (by rw [← HXA.out]; exact hne) hy), ?_, fun k' e => ?_⟩
      · exact List.set_set ..
      · exact (chg_all ((HC1.out.drewN nq).trans (a2.trans b2 (fun k' e => .inl e)) (fun k' e => .inl e)))
      · rcases hsh k' e with e | e
        · exact .inl e
        · exact .inl (.inr (.inl ⟨k, hk, by rw [HFP.out]; exact e⟩))
    go_wp2_with fail
    go_quiet ((go_at_call 177; exact quiet_left (at_yes _ (H1'.out.drewN _) HX.out HXA.out HFST.out)))
    go_wp2
    go_ret2
    exact ⟨rfl, HT.out _⟩
  · have hh := h.mem.setFree (k := k) (cap := i.fc k - 1) hk hrd1 (by rw [hll]; omega) (hbl (fo + 1))
    rw [hll] at hh
    have HF := Lib.hid hh
    have HE := Lib.hid he
    have hc2 : (1 : Int) < (i.fc k : Int) := by omega
    clear hh h hc0 hrd hlen hrd1 hbl hll hre he hfp
    generalize i.fc k = cap at *
    go_enter Tryz.func169, Tryz.ntmps169
    go_wp2_with (go_at_call 147; refine (refis_any k _).mono ?_; rintro e w' ⟨rfl, rfl⟩; rw [hB])
    go_region
    generalize hW : World.drew _ = w1 at *
    have H1 := HF.out.1.drewN 1
    rw [updF_ints, show World.drewN _ 1 = w1 from hW] at H1
    have HC1 : Hid (Chg (Wr M i) w w1) := Lib.hid (by rw [← hW]; exact HF.out.2.1.drewN 1)
    have HA1 := HF.out.2.2
    obtain ⟨j, x, hx, hxa, hfst⟩ := H.out.pos hown
    obtain ⟨g, hg, hcl, hfz⟩ := H1.slot (j := j) (x := x) hx
    have c8 := H1.cS
    simp only at c8 hg
    rw [hg] at c8
    have hj := (List.getElem?_eq_some_iff.1 hx).1
    have j0 : (0 : Int) ≤ (j : Int) := Int.natCast_nonneg _
    have j1 : (j : Int) < (i.sl.length : Int) := by omega
    have q2 : w1.cell? ⟨g, j * 6 + 2, none⟩ = some (.int .i64 x.is) := hcl 2 (by omega)
    have q4 : w1.cell? ⟨g, j * 6 + 4, none⟩ = some (.bool x.bg) := hcl 4 (by omega)
    have f2 := hfz (j * 6 + 2)
    have f4 := hfz (j * 6 + 4)
    have H1' := Lib.hid H1
    have HX := Lib.hid hx
    have HXA := Lib.hid hxa
    have HFST := Lib.hid hfst
    have HG := Lib.hid hg
    have HHA := Lib.hid HA1
    clear hW H1 hcl hfz hx hxa hfst hg HA1 HF
    have HT : Hid (∀ nq : Nat, RTo w (((w1.drewN nq).setCell ⟨g, j * 6 + 2, none⟩ (.int .i64 0)).setCell ⟨g, j * 6 + 4, none⟩ (.bool false)) M base i { s with hv := upd s.hv k l }) := Lib.hid fun nq => by
      obtain ⟨a1, a2, a3⟩ := (H1'.out.drewN nq).setNum (t := 2) (x' := { x with is := 0 }) HG.out HX.out (by omega) rfl rfl rfl
      obtain ⟨b1, b2, b3⟩ := a1.setNum (j := j) (t := 4) (x := { x with is := 0 }) (x' := { x with is := 0, bg := false }) HG.out (by rw [List.getElem?_set_self (by exact hj)]) (by omega) rfl rfl rfl
      have hsh : ∀ k', All M _ k' → All M i k' ∨ rowB (some ⟨fb, fo + 1, none⟩) k' := fun k' e => HHA.out k' (a3 k' (b3 k' e))
      refine ⟨_, H.out.turn (s' := { s with hv := upd s.hv k l }) HX.out (x' := { x with is := 0, bg := false }) ?_ rfl b1 rfl rfl (H.out.wf.take HE.out) (take_slot H.out.wf hp.nd hk HE.out (H.out.ok x (List.mem_of_getElem? HX.out)) HXA.out) (fun y _ hne hy => take_frame HE.out y (by rw [← HXA.out]; exact hne) hy), ?_, fun k' e => ?_⟩
      · exact List.set_set ..
      · exact (chg_all ((HC1.out.drewN nq).trans (a2.trans b2 (fun k' e => .inl e)) (fun k' e => .inl e)))
      · rcases hsh k' e with e | e
        · exact .inl e
        · exact .inl (.inr (.inl ⟨k, hk, by rw [HFP.out]; exact e⟩))
    go_wp2_with fail
    go_quiet ((go_at_call 177; exact quiet_left (at_yes _ (H1'.out.drewN _) HX.out HXA.out HFST.out)))
    go_wp2
    go_ret2
    exact ⟨rfl, HT.out _⟩
end
end Go.Proofs.YtkfgchhlekdpgaaGreatDoor.Rf
