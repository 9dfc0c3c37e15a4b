/-
  (*block.Table).All: what whoever ranges over a table's slots is told.
-/
import Derived.Test.YtooojajagkbhiaaDoorBlkE
namespace Go.Proofs.YtooojajagkbhiaaDoor.Blk
open Go.RowKit Go.Shelf
open Class (isB isB_true isB_false sizI perI SizTab)
open Go.Proofs.YtooojajagkbhiaaDoor.Addr (Tabs)
attribute [local go_sem] Oper.semAt_some

/-- How many slots a block of a class has. -/
def perN (c : Cfg) (k : Nat) : Nat := (perI c.wd k).toNat
theorem perN_eq (c : Cfg) (k : Nat) : perI c.wd k = (perN c k : Int) := by have := (Class.per_bd c.wd k).1; unfold perN; omega
theorem perN_le (c : Cfg) (k : Nat) : perN c k ≤ 128 := by have := (Class.per_bd c.wd k).2; have := perN_eq c k; omega
theorem perN_pos {c : Cfg} {k : Nat} (hR : rightB c.b c.wd c.m c.r c.ce c.lg c.st = true) (hk : k < 4) : 1 ≤ perN c k := by
  have hRC : RightC c.b c.wd c.m c.r c.ce c.lg c.st := refRightB_true.1 ((rightB_ref ..).symm.trans hR)
  have hB : isB (k : Int) = true := isB_true.2 ⟨by omega, by omega⟩
  have h := perN_eq c k
  rw [Class.perI_yes hB (Class.wordsB_true.2 ⟨hRC.wd0, hRC.wd1⟩)] at h
  obtain ⟨s0, s1⟩ := Class.sizI_bd hB
  have : 1 ≤ c.wd / sizI k := by rw [Int.le_ediv_iff_mul_le (by omega)]; have := hRC.wd0; omega
  omega

theorem wpIn_scope {n : Nat} {P : Program} {c : Code} {Q : Exit → Act → World → Prop} {a : Act} {w : World} (h : c.wpIn Fence.wide n P (Exit.noGoto Q) a w) : (Code.scope c).wpIn Fence.wide n P Q a w :=
  wpIn_wide.2 (wp_scope_straight (wpIn_wide.1 h))

/-- The addresses of a block's slots. -/
def seg (c : Cfg) (ks : List Nat) (b : Nat) : List Int := (List.range (perN c (kAt ks b))).map (adr c (kAt ks b) b)
theorem seg_length (c : Cfg) (ks : List Nat) (b : Nat) : (seg c ks b).length = perN c (kAt ks b) := by simp [seg]
/-- The addresses of the first blocks' slots. -/
def allP (c : Cfg) (ks : List Nat) (b : Nat) : List Int := (List.range b).flatMap (seg c ks)
theorem allP_succ (c : Cfg) (ks : List Nat) (b : Nat) : allP c ks (b + 1) = allP c ks b ++ seg c ks b := by simp [allP, List.range_succ]
theorem allP_prefix (c : Cfg) (ks : List Nat) {a b : Nat} (h : a ≤ b) : allP c ks a <+: allP c ks b := by
  induction b with
  | zero => rw [show a = 0 from by omega]; exact List.prefix_refl _
  | succ b ih =>
    rcases Nat.lt_or_ge b a with h1 | h1
    · rw [show a = b + 1 from by omega]; exact List.prefix_refl _
    · rw [allP_succ]; exact (ih h1).trans (List.prefix_append _ _)
theorem allP_len (c : Cfg) (ks : List Nat) (b : Nat) : (allP c ks b).length ≤ 128 * b := by
  induction b with
  | zero => simp [allP]
  | succ b ih => rw [allP_succ, List.length_append, seg_length]; have := perN_le c (kAt ks b); omega
/-- What is told at a place. -/
def valA (c : Cfg) (ks : List Nat) (j : Nat) : Int := (allP c ks ks.length).getD j 0
theorem valA_at (c : Cfg) (ks : List Nat) {b i : Nat} (hb : b < ks.length) (hi : i < perN c (kAt ks b)) : valA c ks ((allP c ks b).length + i) = adr c (kAt ks b) b i := by
  obtain ⟨t, ht⟩ := allP_prefix c ks (show b + 1 ≤ ks.length from hb)
  unfold valA
  rw [← ht, allP_succ, List.getD_eq_getElem?_getD, List.append_assoc, List.getElem?_append_right (by omega), Nat.add_sub_cancel_left, List.getElem?_append_left (by rw [seg_length]; exact hi)]
  simp [seg, hi]
theorem offs_lt (c : Cfg) (ks : List Nat) {b i : Nat} (hb : b < ks.length) (hi : i < perN c (kAt ks b)) : (allP c ks b).length + i < (allP c ks ks.length).length := by
  have h := (allP_prefix c ks (show b + 1 ≤ ks.length from hb)).length_le
  rw [allP_succ, List.length_append, seg_length] at h
  omega

/-- A loop that ranges over functions leaves a mark for each: all are taken. -/
abbrev markOf (D : Nat) : Deferred := { target := .collected D, args := #[] }
theorem leaves_marks {F : Fence} {n : Nat} {P : Program} {fn : Func} {tmps : Array Value} {R : Ending → World → Prop} (G : World → Prop) (hG : ∀ w, G w → LeavesInM F n P fn tmps R [] .returning w) :
    ∀ (ds : List Nat) (w : World), ds.Nodup → (∀ D ∈ ds, w.heap[D]? = some (.deferred (some []))) → (∀ w D, D ∈ ds → G w → G (w.putObj D (.deferred none))) → G w → LeavesInM F n P fn tmps R (ds.map markOf) .returning w
  | [], w, _, _, _, h => hG w h
  | D :: ds, w, hnd, hd, hp, h => by
    obtain ⟨h1, h2⟩ := List.nodup_cons.1 hnd
    refine ⟨by simp, .inl ⟨D, w.putObj D (.deferred none), rfl, run_takeDeferred (hd D (by simp)), ?_⟩⟩
    exact leaves_marks G hG ds _ h2 (fun E hE => (World.putObj_heap_other (fun e => h1 (by rw [← e]; exact hE))).trans (hd E (by simp [hE]))) (fun w E hE => hp w E (by simp [hE])) (hp w D (by simp) h)

/-- Between two rounds of an iterator that ranges over others itself: its box lies as it lay, and all marks. -/
structure Marked (J : (Nat → Prop) → Nat → World → Prop) (S : Nat) (t : TypeId) (v : Value) (j : Nat) (ds : List Nat) (O : Nat → Prop) (wr : World) : Prop where
  inv : J O j wr
  lt : ∀ k, O k → k < wr.heap.size
  box : Boxed wr S t v
  own : ¬ O S
  nodup : ds.Nodup
  behind : ∀ D ∈ ds, S < D
  mark : ∀ D ∈ ds, wr.heap[D]? = some (.deferred (some []))
  free : ∀ D ∈ ds, ¬ O D
theorem Marked.later {J : (Nat → Prop) → Nat → World → Prop} {S j : Nat} {t : TypeId} {v : Value} {ds : List Nat} {O : Nat → Prop} {wr w' : World} (h : Marked J S t v j ds O wr) (hJ : Stab S J) (hb : Below wr.heap.size wr w') : Marked J S t v j ds O w' :=
  ⟨hJ.alloc h.inv h.lt (Nat.le_of_lt h.box.lt) hb, fun k hk => Nat.lt_of_lt_of_le (h.lt k hk) hb.size, Boxed.below h.box hb h.box.lt, h.own, h.nodup, h.behind, fun D hD => (hb.block D (Array.getElem?_eq_some_iff.1 (h.mark D hD)).1).trans (h.mark D hD), h.free⟩
theorem Marked.turn {J J' : (Nat → Prop) → Nat → World → Prop} {S j j' : Nat} {t : TypeId} {v : Value} {ds : List Nat} {O O' : Nat → Prop} {wr w' : World} (h : Marked J S t v j ds O wr) (hj : J' O' j' w') (ht : Turn S O O' wr w') : Marked J' S t v j' ds O' w' :=
  ⟨hj, ht.lt, ht.boxed h.box (Nat.le_refl _) h.own, fun e => (ht.grow _ e).elim h.own (by have := h.box.lt; omega), h.nodup, h.behind,
   fun D hD => (ht.keep D (Nat.le_of_lt (h.behind D hD)) (Array.getElem?_eq_some_iff.1 (h.mark D hD)).1 (h.free D hD)).trans (h.mark D hD),
   fun D hD e => (ht.grow _ e).elim (h.free D hD) (by have := (Array.getElem?_eq_some_iff.1 (h.mark D hD)).1; omega)⟩
theorem Marked.stab {J : (Nat → Prop) → Nat → World → Prop} {S j B : Nat} {t : TypeId} {v : Value} {ds : List Nat} {O : Nat → Prop} {X Y : World} (h : Marked J S t v j ds O X) (hJ : Stab S J) (hS : S < B) (hD : ∀ D ∈ ds, D < B) (hb : Below B X Y) (hk : ∀ k, O k → Y.heap[k]? = X.heap[k]?) : Marked J S t v j ds O Y :=
  ⟨hJ O j X Y h.inv (hb.mono (by omega)) hk, fun k hk' => Nat.lt_of_lt_of_le (h.lt k hk') hb.size, Boxed.below h.box hb hS, h.own, h.nodup, h.behind, fun D hD' => (hb.block D (hD D hD')).trans (h.mark D hD'), h.free⟩
theorem Marked.more {J : (Nat → Prop) → Nat → World → Prop} {S j D : Nat} {t : TypeId} {v : Value} {ds : List Nat} {O : Nat → Prop} {wr : World} (h : Marked J S t v j ds O wr) (hD : ∀ E ∈ ds, E < D) (hS : S < D) (hK : wr.heap[D]? = some (.deferred (some []))) (hn : ¬ O D) : Marked J S t v j (D :: ds) O wr :=
  ⟨h.inv, h.lt, h.box, h.own, List.nodup_cons.2 ⟨fun e => by have := hD D e; omega, h.nodup⟩, fun E hE => (List.mem_cons.1 hE).elim (fun e => e ▸ hS) (h.behind E), fun E hE => (List.mem_cons.1 hE).elim (fun e => e ▸ hK) (h.mark E),
   fun E hE => (List.mem_cons.1 hE).elim (fun e => e ▸ hn) (h.free E)⟩
/-- At the end all marks are taken. -/
theorem Marked.leaves {F : Fence} {n : Nat} {P : Program} {fn : Func} {tmps : Array Value} {R : Ending → World → Prop} {J : (Nat → Prop) → Nat → World → Prop} {S j : Nat} {t : TypeId} {v : Value} {ds : List Nat} {O : Nat → Prop} {wr : World} (h : Marked J S t v j ds O wr) (hJ : Stab S J)
    (hG : ∀ w, J O j w → wr.heap.size ≤ w.heap.size → (∀ k, O k → k < w.heap.size) → LeavesInM F n P fn tmps R [] .returning w) : LeavesInM F n P fn tmps R (ds.map markOf) .returning wr :=
  leaves_marks (fun w => J O j w ∧ wr.heap.size ≤ w.heap.size ∧ ∀ k, O k → k < w.heap.size) (fun w hw => hG w hw.1 hw.2.1 hw.2.2) ds wr h.nodup h.mark
    (fun w D hD hw => ⟨hJ.putObj hw.1 (Nat.le_of_lt (h.behind D hD)) (h.free D hD) _, by simpa using hw.2.1, fun k hk => by simpa using hw.2.2 k hk⟩) ⟨h.inv, Nat.le_refl _, h.lt⟩

/-- The table, at a box. -/
def TbAt (Bt B base cap : Nat) (c : Cfg) (ks : List Nat) (p : Option Addr) (W : World) : Prop := Tabs W ∧ TbIs W B base c ks p cap ∧ W.cell? ⟨Bt, 0, none⟩ = some (.pointer (some ⟨B, 0, none⟩))

end Go.Proofs.YtooojajagkbhiaaDoor.Blk
