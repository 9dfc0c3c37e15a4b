/-
  A heap in memory: its blocks, what each has, what stays when blocks that aren't its own turn.
-/
import Derived.Test.YtcoolapancdioaaGreatDoorLs2
import Derived.Test.YtcoolapancdioaaGreatDoorHpA
namespace Go.Proofs.YtcoolapancdioaaGreatDoor.Hp
open Go.RowKit
open Class (isB isB_true isB_false is_any sizI sizI_bd roomI SizTab)
open Blk (Cfg TbIs ownB ownB_true blk kAt rowB adr perN seg)
open Go.Proofs.YtcoolapancdioaaGreatDoor.Row (Chg Rd)
open Arena (ArIs Two)
open Bits (SetIs)
open Lis (Sit Five Held upd upd_same upd_other set_kept lastN)
open Go.Proofs.YtcoolapancdioaaGreatDoor.Addr (Tabs adrB adrB_true)

/-- Where a heap lies. -/
structure Ids where
  A : Nat
  G : Nat
  T : Nat
  L : Nat
  I : Nat
  J : Nat
  B : Nat
  Bw : Nat
  O : Nat
  Ow : Nat
  Cb : Nat
  cap : Nat
  capS : Nat
  capT : Nat
  capB : Nat
  capO : Nat
  capC : Nat
  base : Nat
  baseT : Nat
  ps : Nat → Option Addr
  cs : Nat → Nat
  pt : Option Addr
  sw : List Nat
  ld : Nat
  st : Nat

/-- What a heap has: its config, its blocks' classes, its free slots, its words, what is born, what has the color 1, its cells. -/
structure St where
  c : Cfg
  ks : List Nat
  hv : Nat → List Nat
  ws : List Nat
  bs : List Nat
  os : List Nat
  ce : List Int

def own (s : St) (a : Int) : Bool := ownB s.c s.ks a
def cls (s : St) (a : Int) : Nat := kAt s.ks (blk s.c a)
def wdA (s : St) (a : Nat) : Nat := Arena.wd s.ws (a - 1)
def bn (s : St) (a : Nat) : Bool := hasB s.bs a
def fr (s : St) (a : Nat) : Bool := decide (a ∈ s.hv 0) || (decide (a ∈ s.hv 1) || (decide (a ∈ s.hv 2) || decide (a ∈ s.hv 3)))
theorem fr_true {s : St} {a : Nat} : fr s a = true ↔ ∃ k, k < 4 ∧ a ∈ s.hv k := by
  simp only [fr, Bool.or_eq_true, decide_eq_true_eq]
  constructor
  · rintro (h | h | h | h)
    · exact ⟨0, by omega, h⟩
    · exact ⟨1, by omega, h⟩
    · exact ⟨2, by omega, h⟩
    · exact ⟨3, by omega, h⟩
  · rintro ⟨k, hk, h⟩
    have : k = 0 ∨ k = 1 ∨ k = 2 ∨ k = 3 := by omega
    rcases this with rfl | rfl | rfl | rfl
    · exact .inl h
    · exact .inr (.inl h)
    · exact .inr (.inr (.inl h))
    · exact .inr (.inr (.inr h))
theorem fr_false {s : St} {a : Nat} : fr s a = false ↔ ∀ k, k < 4 → a ∉ s.hv k := by
  rw [← Bool.not_eq_true, fr_true]
  exact ⟨fun h k hk hm => h ⟨k, hk, hm⟩, fun h ⟨k, hk, hm⟩ => h k hk hm⟩

/-- What always holds of a heap. -/
structure Wf (s : St) : Prop where
  right : rightB s.c.b s.c.wd s.c.m s.c.r s.c.ce s.c.lg s.c.st = true
  words : s.c.b * s.c.wd = (s.ws.length : Int)
  full : (s.ks.length : Int) ≤ s.c.b
  free : ∀ k, k < 4 → ∀ a ∈ s.hv k, own s a = true ∧ cls s a = k ∧ bn s a = false ∧ Hdr.isOb (wdA s a) = false
  born : ∀ a, bn s a = true → own s a = true ∧ Hdr.isOb (wdA s a) = true
  room : ∀ a : Nat, own s a = true → Hdr.isOb (wdA s a) = true → Hdr.obK (wdA s a) = cls s a
  fresh : ∀ j : Nat, (s.ks.length : Int) * s.c.wd ≤ (j : Int) → Arena.wd s.ws j = 0

def seven (H : Nat) (d : Ids) (k : Nat) : Prop := k = H ∨ k = d.T ∨ k = d.B ∨ k = d.Bw ∨ k = d.O ∨ k = d.Ow ∨ k = d.Cb
def lo (d : Ids) (k : Nat) : Prop := Lis.Own d.L d.A d.G d.I d.J d.ps k
/-- The blocks that are a heap's own. -/
def Mine (H : Nat) (d : Ids) (k : Nat) : Prop := lo d k ∨ seven H d k ∨ rowB d.pt k
structure Is (w : World) (H : Nat) (d : Ids) (s : St) (m : Nat) : Prop where
  sit : Sit w d.L d.A d.G d.T d.I d.J d.cap d.capS d.base d.ps d.cs (fun k => (s.hv k).reverse) s.ws d.sw d.ld d.st
  held : Held s.ws d.sw s.hv
  tb : TbIs w d.T d.baseT s.c s.ks d.pt d.capT
  born : SetIs w d.B d.Bw (s.ws.length + 1) d.capB s.bs
  ones : SetIs w d.O d.Ow (s.ws.length + 1) d.capO s.os
  cA : w.cell? ⟨H, 0, none⟩ = some (.pointer (some ⟨d.A, 0, none⟩))
  cT : w.cell? ⟨H, 1, none⟩ = some (.pointer (some ⟨d.T, 0, none⟩))
  cL : w.cell? ⟨H, 2, none⟩ = some (.pointer (some ⟨d.L, 0, none⟩))
  cB : w.cell? ⟨H, 3, none⟩ = some (.pointer (some ⟨d.B, 0, none⟩))
  cO : w.cell? ⟨H, 4, none⟩ = some (.pointer (some ⟨d.O, 0, none⟩))
  cC : w.cell? ⟨H, 5, none⟩ = some (.slice (some ⟨d.Cb, 0, none⟩) s.ce.length d.capC)
  cells : ∀ j, j < s.ce.length → w.cell? ⟨d.Cb, j, none⟩ = some (.int .i64 (s.ce.getD j 0))
  fz : ∀ j, j < s.ce.length → w.frozen? ⟨d.Cb, j, none⟩ = false
  ltBw : d.Bw < w.heap.size
  ltOw : d.Ow < w.heap.size
  ltCb : d.Cb < w.heap.size
  nd : [H, d.T, d.B, d.Bw, d.O, d.Ow, d.Cb].Nodup
  ap : ∀ k, lo d k → ¬ seven H d k
  apT : ∀ g, rowB d.pt g → ¬ lo d g ∧ ¬ seven H d g
  bt : d.baseT ≤ w.heap.size
  hi : ∀ k, Mine H d k → 0 < k ∧ 1 < k
  cnt : d.ld ≤ m ∧ d.st ≤ m ∧ ∀ k, k < 4 → (s.hv k).length ≤ m
  capc : s.ce.length ≤ d.capC ∧ s.ce.length ≤ 64
  wf : Wf s

section
variable {w w' : World} {H : Nat} {d : Ids} {s : St} {m : Nat}
theorem Is.ltH (h : Is w H d s m) : H < w.heap.size := World.block_lt_of_cell? w _ h.cA
theorem Is.ltB (h : Is w H d s m) : d.B < w.heap.size := World.block_lt_of_cell? w _ h.born.cs
theorem Is.ltO (h : Is w H d s m) : d.O < w.heap.size := World.block_lt_of_cell? w _ h.ones.cs
theorem Is.lt (h : Is w H d s m) {k : Nat} (hk : Mine H d k) : k < w.heap.size := by
  have := h.ltH; have := h.ltB; have := h.ltO; have := h.ltBw; have := h.ltOw; have := h.ltCb; have := h.tb.ltB
  rcases hk with e | e | e
  · exact h.sit.ltO e
  · unfold seven at e; omega
  · exact (h.tb.ltG e).2
theorem mine_lo {k : Nat} (h : lo d k) : Mine H d k := .inl h
theorem Is.kept (h : Is w H d s m) (hk : ∀ k, Mine H d k → w'.heap[k]? = w.heap[k]?) (hs : w.heap.size ≤ w'.heap.size) : Is w' H d s m := by
  have h7 : ∀ k, seven H d k → w'.heap[k]? = w.heap[k]? := fun k e => hk k (.inr (.inl e))
  have cH : ∀ i, w'.cell? ⟨H, i, none⟩ = w.cell? ⟨H, i, none⟩ := fun i => Row.cell_of_block (a := ⟨H, i, none⟩) (h7 H (.inl rfl))
  have cC : ∀ i, w'.cell? ⟨d.Cb, i, none⟩ = w.cell? ⟨d.Cb, i, none⟩ := fun i => Row.cell_of_block (a := ⟨d.Cb, i, none⟩) (h7 d.Cb (.inr (.inr (.inr (.inr (.inr (.inr rfl)))))))
  have fC : ∀ i, w'.frozen? ⟨d.Cb, i, none⟩ = w.frozen? ⟨d.Cb, i, none⟩ := fun i => Row.frozen_of_block (a := ⟨d.Cb, i, none⟩) (h7 d.Cb (.inr (.inr (.inr (.inr (.inr (.inr rfl)))))))
  exact ⟨h.sit.kept (fun k e => hk k (.inl e)) hs, h.held, h.tb.kept (h7 _ (.inr (.inl rfl))) (fun g hg => hk g (.inr (.inr hg))), set_kept h.born (h7 _ (.inr (.inr (.inl rfl)))) (h7 _ (.inr (.inr (.inr (.inl rfl))))),
    set_kept h.ones (h7 _ (.inr (.inr (.inr (.inr (.inl rfl)))))) (h7 _ (.inr (.inr (.inr (.inr (.inr (.inl rfl))))))), (cH 0).trans h.cA, (cH 1).trans h.cT, (cH 2).trans h.cL, (cH 3).trans h.cB, (cH 4).trans h.cO, (cH 5).trans h.cC,
    fun j hj => (cC j).trans (h.cells j hj), fun j hj => (fC j).trans (h.fz j hj), Nat.lt_of_lt_of_le h.ltBw hs, Nat.lt_of_lt_of_le h.ltOw hs, Nat.lt_of_lt_of_le h.ltCb hs, h.nd, h.ap, h.apT, Nat.le_trans h.bt hs, h.hi, h.cnt, h.capc, h.wf⟩
theorem Is.later (h : Is w H d s m) (hb : Below w.heap.size w w') : Is w' H d s m := h.kept (fun k hk => hb.block k (h.lt hk)) hb.size
theorem Is.drewN (h : Is w H d s m) (n : Nat) : Is (w.drewN n) H d s m := h.kept (fun _ _ => rfl) (Nat.le_refl _)
theorem Is.chg {S : Nat → Prop} (h : Is w H d s m) (hc : Chg S w w') (hS : ∀ k, Mine H d k → ¬ S k) : Is w' H d s m := h.kept (fun k hk => hc.block k (h.lt hk) (hS k hk)) hc.size
theorem Is.more (h : Is w H d s m) {m' : Nat} (hm : m ≤ m') : Is w H d s m' :=
  { h with cnt := ⟨Nat.le_trans h.cnt.1 hm, Nat.le_trans h.cnt.2.1 hm, fun k hk => Nat.le_trans (h.cnt.2.2 k hk) hm⟩ }
/-- The lists, or the arena, turned. -/
theorem Is.lists (h : Is w H d s m) {ps : Nat → Option Addr} {cs : Nat → Nat} {hv : Nat → List Nat} {ws sw : List Nat} {ld st m' : Nat}
    (hs : Sit w' d.L d.A d.G d.T d.I d.J d.cap d.capS d.base ps cs (fun k => (hv k).reverse) ws sw ld st) (hh : Held ws sw hv) (hl : ws.length = s.ws.length) (hc : Chg (lo d) w w')
    (hR : ∀ j, Lis.Own d.L d.A d.G d.I d.J ps j → lo d j ∨ w.heap.size ≤ j) (hm : ld ≤ m' ∧ st ≤ m' ∧ ∀ k, k < 4 → (hv k).length ≤ m') (hw : Wf { s with hv := hv, ws := ws }) :
    Is w' H { d with ps := ps, cs := cs, sw := sw, ld := ld, st := st } { s with hv := hv, ws := ws } m' := by
  have h7 : ∀ k, seven H d k → w'.heap[k]? = w.heap[k]? := fun k e => hc.block k (h.lt (.inr (.inl e))) (fun hl => h.ap k hl e)
  have cH : ∀ i, w'.cell? ⟨H, i, none⟩ = w.cell? ⟨H, i, none⟩ := fun i => Row.cell_of_block (a := ⟨H, i, none⟩) (h7 H (.inl rfl))
  have cC : ∀ i, w'.cell? ⟨d.Cb, i, none⟩ = w.cell? ⟨d.Cb, i, none⟩ := fun i => Row.cell_of_block (a := ⟨d.Cb, i, none⟩) (h7 d.Cb (.inr (.inr (.inr (.inr (.inr (.inr rfl)))))))
  have fC : ∀ i, w'.frozen? ⟨d.Cb, i, none⟩ = w.frozen? ⟨d.Cb, i, none⟩ := fun i => Row.frozen_of_block (a := ⟨d.Cb, i, none⟩) (h7 d.Cb (.inr (.inr (.inr (.inr (.inr (.inr rfl)))))))
  have hs' := hc.size
  have e1 : s.ws.length + 1 = ws.length + 1 := by rw [hl]
  refine ⟨hs, hh, h.tb.kept (h7 _ (.inr (.inl rfl))) (fun g hg => hc.block g (h.tb.ltG hg).2 (h.apT g hg).1), ?_, ?_, (cH 0).trans h.cA, (cH 1).trans h.cT, (cH 2).trans h.cL, (cH 3).trans h.cB, (cH 4).trans h.cO, (cH 5).trans h.cC,
    fun j hj => (cC j).trans (h.cells j hj), fun j hj => (fC j).trans (h.fz j hj), Nat.lt_of_lt_of_le h.ltBw hs', Nat.lt_of_lt_of_le h.ltOw hs', Nat.lt_of_lt_of_le h.ltCb hs', h.nd, fun k hk e => ?_, fun g hg => ⟨fun hk => ?_, (h.apT g hg).2⟩, Nat.le_trans h.bt hs', fun k hk => ?_, hm, h.capc, hw⟩
  · show SetIs w' d.B d.Bw (ws.length + 1) d.capB s.bs
    rw [← e1]
    exact set_kept h.born (h7 _ (.inr (.inr (.inl rfl)))) (h7 _ (.inr (.inr (.inr (.inl rfl)))))
  · show SetIs w' d.O d.Ow (ws.length + 1) d.capO s.os
    rw [← e1]
    exact set_kept h.ones (h7 _ (.inr (.inr (.inr (.inr (.inl rfl)))))) (h7 _ (.inr (.inr (.inr (.inr (.inr (.inl rfl)))))))
  · rcases hR k hk with e2 | e2
    · exact h.ap k e2 e
    · have := h.lt (.inr (.inl e)); omega
  · rcases hR g hk with e2 | e2
    · exact (h.apT g hg).1 e2
    · have := (h.tb.ltG hg).2; omega
  · have hH := h.hi H (.inr (.inl (.inl rfl)))
    have hHl := h.ltH
    rcases hk with e | e | e
    · rcases hR k e with e2 | e2
      · exact h.hi k (.inl e2)
      · omega
    · exact h.hi k (.inr (.inl e))
    · exact h.hi k (.inr (.inr e))
/-- A set, or the cells, turned: one block. -/
theorem Is.born' (h : Is w H d s m) {bs : List Nat} (hb : SetIs w' d.B d.Bw (s.ws.length + 1) d.capB bs) (hc : ∀ k, k ≠ d.Bw → w'.heap[k]? = w.heap[k]?) (hs : w.heap.size ≤ w'.heap.size) (hw : Wf { s with bs := bs }) : Is w' H d { s with bs := bs } m := by
  have hnd := h.nd
  simp only [List.nodup_cons, List.mem_cons, List.not_mem_nil, or_false, not_or] at hnd
  have h7 : ∀ k, k ≠ d.Bw → w'.heap[k]? = w.heap[k]? := hc
  have cH : ∀ i, w'.cell? ⟨H, i, none⟩ = w.cell? ⟨H, i, none⟩ := fun i => Row.cell_of_block (a := ⟨H, i, none⟩) (h7 H (by omega))
  have cC : ∀ i, w'.cell? ⟨d.Cb, i, none⟩ = w.cell? ⟨d.Cb, i, none⟩ := fun i => Row.cell_of_block (a := ⟨d.Cb, i, none⟩) (h7 d.Cb (by omega))
  have fC : ∀ i, w'.frozen? ⟨d.Cb, i, none⟩ = w.frozen? ⟨d.Cb, i, none⟩ := fun i => Row.frozen_of_block (a := ⟨d.Cb, i, none⟩) (h7 d.Cb (by omega))
  exact ⟨h.sit.kept (fun k e => h7 k (fun x => h.ap k e (by unfold seven; omega))) hs, h.held, h.tb.kept (h7 _ (by omega)) (fun g hg => h7 g (fun x => (h.apT g hg).2 (by unfold seven; omega))), hb,
    set_kept h.ones (h7 _ (by omega)) (h7 _ (by omega)), (cH 0).trans h.cA, (cH 1).trans h.cT, (cH 2).trans h.cL, (cH 3).trans h.cB, (cH 4).trans h.cO, (cH 5).trans h.cC,
    fun j hj => (cC j).trans (h.cells j hj), fun j hj => (fC j).trans (h.fz j hj), Nat.lt_of_lt_of_le h.ltBw hs, Nat.lt_of_lt_of_le h.ltOw hs, Nat.lt_of_lt_of_le h.ltCb hs, h.nd, h.ap, h.apT, Nat.le_trans h.bt hs, h.hi, h.cnt, h.capc, hw⟩
theorem Is.ones' (h : Is w H d s m) {os : List Nat} (hb : SetIs w' d.O d.Ow (s.ws.length + 1) d.capO os) (hc : ∀ k, k ≠ d.Ow → w'.heap[k]? = w.heap[k]?) (hs : w.heap.size ≤ w'.heap.size) : Is w' H d { s with os := os } m := by
  have hnd := h.nd
  simp only [List.nodup_cons, List.mem_cons, List.not_mem_nil, or_false, not_or] at hnd
  have h7 : ∀ k, k ≠ d.Ow → w'.heap[k]? = w.heap[k]? := hc
  have cH : ∀ i, w'.cell? ⟨H, i, none⟩ = w.cell? ⟨H, i, none⟩ := fun i => Row.cell_of_block (a := ⟨H, i, none⟩) (h7 H (by omega))
  have cC : ∀ i, w'.cell? ⟨d.Cb, i, none⟩ = w.cell? ⟨d.Cb, i, none⟩ := fun i => Row.cell_of_block (a := ⟨d.Cb, i, none⟩) (h7 d.Cb (by omega))
  have fC : ∀ i, w'.frozen? ⟨d.Cb, i, none⟩ = w.frozen? ⟨d.Cb, i, none⟩ := fun i => Row.frozen_of_block (a := ⟨d.Cb, i, none⟩) (h7 d.Cb (by omega))
  exact ⟨h.sit.kept (fun k e => h7 k (fun x => h.ap k e (by unfold seven; omega))) hs, h.held, h.tb.kept (h7 _ (by omega)) (fun g hg => h7 g (fun x => (h.apT g hg).2 (by unfold seven; omega))),
    set_kept h.born (h7 _ (by omega)) (h7 _ (by omega)), hb, (cH 0).trans h.cA, (cH 1).trans h.cT, (cH 2).trans h.cL, (cH 3).trans h.cB, (cH 4).trans h.cO, (cH 5).trans h.cC,
    fun j hj => (cC j).trans (h.cells j hj), fun j hj => (fC j).trans (h.fz j hj), Nat.lt_of_lt_of_le h.ltBw hs, Nat.lt_of_lt_of_le h.ltOw hs, Nat.lt_of_lt_of_le h.ltCb hs, h.nd, h.ap, h.apT, Nat.le_trans h.bt hs, h.hi, h.cnt, h.capc,
    ⟨h.wf.right, h.wf.words, h.wf.full, h.wf.free, h.wf.born, h.wf.room, h.wf.fresh⟩⟩
/-- The table turned. -/
theorem Is.table (h : Is w H d s m) {ks : List Nat} {pt : Option Addr} {capT baseT : Nat} (ht : TbIs w' d.T baseT s.c ks pt capT) (hc : Chg (fun k => k = d.T ∨ rowB d.pt k) w w') (hR : ∀ g, rowB pt g → rowB d.pt g ∨ w.heap.size ≤ g) (hbt : baseT ≤ w'.heap.size)
    (hw : Wf { s with ks := ks }) : Is w' H { d with pt := pt, capT := capT, baseT := baseT } { s with ks := ks } m := by
  have hnd := h.nd
  simp only [List.nodup_cons, List.mem_cons, List.not_mem_nil, or_false, not_or] at hnd
  have h7 : ∀ k, seven H d k → k ≠ d.T → w'.heap[k]? = w.heap[k]? := fun k e hne => hc.block k (h.lt (.inr (.inl e))) (fun x => x.elim hne (fun x => (h.apT k x).2 e))
  have cH : ∀ i, w'.cell? ⟨H, i, none⟩ = w.cell? ⟨H, i, none⟩ := fun i => Row.cell_of_block (a := ⟨H, i, none⟩) (h7 H (.inl rfl) (by omega))
  have cC : ∀ i, w'.cell? ⟨d.Cb, i, none⟩ = w.cell? ⟨d.Cb, i, none⟩ := fun i => Row.cell_of_block (a := ⟨d.Cb, i, none⟩) (h7 d.Cb (.inr (.inr (.inr (.inr (.inr (.inr rfl)))))) (by omega))
  have fC : ∀ i, w'.frozen? ⟨d.Cb, i, none⟩ = w.frozen? ⟨d.Cb, i, none⟩ := fun i => Row.frozen_of_block (a := ⟨d.Cb, i, none⟩) (h7 d.Cb (.inr (.inr (.inr (.inr (.inr (.inr rfl)))))) (by omega))
  have hs := hc.size
  exact ⟨h.sit.kept (fun k e => hc.block k (h.lt (.inl e)) (fun x => x.elim (fun x => h.ap k e (by unfold seven; omega)) (fun x => (h.apT k x).1 e))) hs, h.held, ht,
    set_kept h.born (h7 d.B (by unfold seven; omega) (by omega)) (h7 d.Bw (by unfold seven; omega) (by omega)), set_kept h.ones (h7 d.O (by unfold seven; omega) (by omega)) (h7 d.Ow (by unfold seven; omega) (by omega)), (cH 0).trans h.cA, (cH 1).trans h.cT, (cH 2).trans h.cL, (cH 3).trans h.cB, (cH 4).trans h.cO, (cH 5).trans h.cC,
    fun j hj => (cC j).trans (h.cells j hj), fun j hj => (fC j).trans (h.fz j hj), Nat.lt_of_lt_of_le h.ltBw hs, Nat.lt_of_lt_of_le h.ltOw hs, Nat.lt_of_lt_of_le h.ltCb hs, h.nd, h.ap,
    fun g hg => (hR g hg).elim (fun e => h.apT g e) (fun e => ⟨fun x => by have := h.lt (.inl x); omega, fun x => by have := h.lt (.inr (.inl x)); omega⟩), hbt,
    fun k hk => hk.elim (fun e => h.hi k (.inl e)) (fun e => e.elim (fun e => h.hi k (.inr (.inl e))) (fun e => (hR k e).elim (fun e => h.hi k (.inr (.inr e))) (fun e => by have := h.hi H (.inr (.inl (.inl rfl))); have := h.ltH; omega))), h.cnt, h.capc, hw⟩
/-- A cell laid. -/
theorem Is.cell' (h : Is w H d s m) {j : Nat} (hj : j < s.ce.length) (v : Int) : Is (w.setCell ⟨d.Cb, j, none⟩ (.int .i64 v)) H d { s with ce := s.ce.set j v } m := by
  have hnd := h.nd
  simp only [List.nodup_cons, List.mem_cons, List.not_mem_nil, or_false, not_or] at hnd
  have h7 : ∀ k, k ≠ d.Cb → (w.setCell ⟨d.Cb, j, none⟩ (.int .i64 v)).heap[k]? = w.heap[k]? := fun k hk => Lis.heap_set hk
  have hs : w.heap.size ≤ (w.setCell ⟨d.Cb, j, none⟩ (.int .i64 v)).heap.size := by rw [Row.size_setCell]; exact Nat.le_refl _
  have cH : ∀ i, (w.setCell ⟨d.Cb, j, none⟩ (.int .i64 v)).cell? ⟨H, i, none⟩ = w.cell? ⟨H, i, none⟩ := fun i => Row.cell_of_block (a := ⟨H, i, none⟩) (h7 H (by omega))
  have hl : (s.ce.set j v).length = s.ce.length := by simp
  refine ⟨h.sit.kept (fun k e => h7 k (fun x => h.ap k e (by unfold seven; omega))) hs, h.held, h.tb.kept (h7 _ (by omega)) (fun g hg => h7 g (fun x => (h.apT g hg).2 (by unfold seven; omega))),
    set_kept h.born (h7 _ (by omega)) (h7 _ (by omega)), set_kept h.ones (h7 _ (by omega)) (h7 _ (by omega)), (cH 0).trans h.cA, (cH 1).trans h.cT, (cH 2).trans h.cL, (cH 3).trans h.cB, (cH 4).trans h.cO, ?_, fun i hi => ?_, fun i hi => ?_,
    Nat.lt_of_lt_of_le h.ltBw hs, Nat.lt_of_lt_of_le h.ltOw hs, Nat.lt_of_lt_of_le h.ltCb hs, h.nd, h.ap, h.apT, Nat.le_trans h.bt hs, h.hi, h.cnt, ?_, ⟨h.wf.right, h.wf.words, h.wf.full, h.wf.free, h.wf.born, h.wf.room, h.wf.fresh⟩⟩
  · show _ = some (Value.slice _ (s.ce.set j v).length _)
    rw [hl]; exact (cH 5).trans h.cC
  · rw [hl] at hi
    by_cases e : i = j
    · subst e
      rw [Row.same (h.cells i hi)]
      simp [List.getD_eq_getElem?_getD, hi]
    · rw [Row.other (by first | (simp; done) | (simp; omega)), h.cells i hi]
      simp [List.getD_eq_getElem?_getD, Ne.symm e]
  · rw [hl] at hi
    rw [World.frozen?_setCell]; exact h.fz i hi
  · show (s.ce.set j v).length ≤ _ ∧ (s.ce.set j v).length ≤ 64
    rw [hl]; exact h.capc
end

theorem Is.tabs {w w' : World} {H : Nat} {d : Ids} {s : St} {m : Nat} (h : Is w H d s m) (hc : Chg (Mine H d) w w') (ht : Tabs w) : Tabs w' := by
  have hb : Below (max 0 1 + 1) w w' := hc.below (fun k hk => by have := h.hi k hk; omega) (by have := h.hi H (.inr (.inl (.inl rfl))); have := h.ltH; omega)
  exact ht.below hb (by omega) (by omega)
/-- A heap that has turned: where it lies then, what it has then. -/
def To (w w' : World) (H : Nat) (d : Ids) (s : St) (m : Nat) : Prop := ∃ d', Is w' H d' s m ∧ Chg (Mine H d) w w' ∧ ∀ j, Mine H d' j → Mine H d j ∨ w.heap.size ≤ j
section
variable {w w1 w2 : World} {H : Nat} {d d1 : Ids} {s s1 : St} {m m1 : Nat}
theorem To.of_below (h : Is w H d s m) (hb : Below w.heap.size w w1) : To w w1 H d s m := ⟨d, h.later hb, Chg.of_below hb, fun _ e => .inl e⟩
theorem To.trans (hc : Chg (Mine H d) w w1) (hR : ∀ j, Mine H d1 j → Mine H d j ∨ w.heap.size ≤ j) (h2 : To w1 w2 H d1 s1 m1) : To w w2 H d s1 m1 := by
  obtain ⟨d2, h3, h4, h5⟩ := h2
  have hs := hc.size
  exact ⟨d2, h3, hc.trans h4 hR, fun j hj => (h5 j hj).elim (hR j) (fun e => .inr (by omega))⟩
end
end Go.Proofs.YtcoolapancdioaaGreatDoor.Hp
