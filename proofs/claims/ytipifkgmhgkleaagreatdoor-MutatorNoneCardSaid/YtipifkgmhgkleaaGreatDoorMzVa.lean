/-
  Texts one behind the other: MvA MvB MvC MvD MvE (theorems that nobody names are left out).
-/
import Derived.Test.YtipifkgmhgkleaaGreatDoorMzMb
import Derived.Test.YtipifkgmhgkleaaGreatDoorMzSa
import Derived.Test.YtipifkgmhgkleaaGreatDoorMzOa
namespace Go.Proofs.YtipifkgmhgkleaaGreatDoor.Mv
open Go.RowKit
open Hp (Ids St Is To Mine)
open Lg (BfIs BxIs)
open Brd (BdIs)
open Qu (QuIs)
open Mu (Sy Sd ownS ShIs Ml Md ownM MIs lt_of_cell bx_tag bf_tag)
open Go.Proofs.YtipifkgmhgkleaaGreatDoor.Row (Chg rowB)
open Go.Proofs.YtipifkgmhgkleaaGreatDoor.Addr (Tabs)

def gl : Nat := max (max 2 9) 1 + 1
/-- From a world to a later one only blocks of these owners turned; whose each is stays. -/
structure Mv (P : Nat → Prop) (O O' : Nat → Nat) (w w' : World) : Prop where
  chg : Chg (fun k => P (O k)) w w'
  old : ∀ k, k < w.heap.size → O' k = O k
  new : ∀ k, O' k ≠ 0 → k < w'.heap.size
structure Okw (O : Nat → Nat) (w : World) : Prop where
  lt : ∀ k, O k ≠ 0 → k < w.heap.size
  hi : ∀ k, O k ≠ 0 → gl ≤ k
  lim : LimTab w
  sb : 9 < w.heap.size
  fm : Opr.FormTab w
theorem Chg.mono' {S T : Nat → Prop} {a b : World} (h : Chg S a b) (hS : ∀ k, S k → T k) : Chg T a b := ⟨h.os, h.tape, h.output, h.size, fun k hk hn => h.block k hk (fun e => hn (hS k e))⟩
section
variable {P P' : Nat → Prop} {O O' O1 O2 : Nat → Nat} {w w' w1 w2 : World}
theorem Mv.refl (h : Okw O w) : Mv P O O w w := ⟨Chg.refl _ _, fun _ _ => rfl, h.lt⟩
theorem Mv.trans (h : Mv P O O1 w w1) (k : Mv P O1 O2 w1 w2) : Mv P O O2 w w2 :=
  ⟨h.chg.trans k.chg (fun i hi => by
    by_cases hl : i < w.heap.size
    · rw [h.old i hl] at hi; exact .inl hi
    · exact .inr (by omega)), fun i hi => (k.old i (Nat.lt_of_lt_of_le hi h.chg.size)).trans (h.old i hi), k.new⟩
theorem Mv.mono (h : Mv P O O' w w') (hP : ∀ o, P o → P' o) : Mv P' O O' w w' := ⟨Chg.mono' h.chg fun _k hk => hP _ hk, h.old, h.new⟩
theorem Mv.later (h : Okw O w) (hb : Below w.heap.size w w') : Mv P O O w w' := ⟨Chg.of_below hb, fun _ _ => rfl, fun k hk => Nat.lt_of_lt_of_le (h.lt k hk) hb.size⟩
/-- Blocks of one owner turn. -/
theorem Mv.own {S : Nat → Prop} (h : Okw O w) (hc : Chg S w w') (hS : ∀ k, S k → P (O k)) : Mv P O O w w' := ⟨Chg.mono' hc hS, fun _ _ => rfl, fun k hk => Nat.lt_of_lt_of_le (h.lt k hk) hc.size⟩
theorem Okw.mv (h : Okw O w) (hm : Mv P O O' w w') (h0 : ¬ P 0) : Okw O' w' where
  lt := hm.new
  hi k hk := by
    by_cases hl : k < w.heap.size
    · rw [hm.old k hl] at hk; exact h.hi k hk
    · have h1 := h.lim.blk
      have h2 := h.sb
      have h3 := h.fm.blk
      unfold gl; omega
  lim := by
    have h1 := h.lim.blk
    have h2 := h.sb
    have h3 := h.fm.blk
    have hb : Below gl w w' := hm.chg.below (fun k hk => h.hi k (fun e => h0 (by rw [← e]; exact hk))) (by unfold gl; omega)
    exact h.lim.below hb (by unfold gl; omega)
  sb := Nat.lt_of_lt_of_le h.sb hm.chg.size
  fm := by
    have h1 := h.lim.blk
    have h2 := h.sb
    have h3 := h.fm.blk
    have hb : Below gl w w' := hm.chg.below (fun k hk => h.hi k (fun e => h0 (by rw [← e]; exact hk))) (by unfold gl; omega)
    exact h.fm.below hb (by unfold gl; omega)
/-- A box that nobody turns. -/
def Bx (O : Nat → Nat) (w : World) (b : Nat) (v : Value) : Prop := w.cell? ⟨b, 0, none⟩ = some v ∧ O b = 0
theorem Bx.mv {b : Nat} {v : Value} (h : Bx O w b v) (hm : Mv P O O' w w') (h0 : ¬ P 0) : Bx O' w' b v :=
  have hl : b < w.heap.size := lt_of_cell h.1
  ⟨(hm.chg.cell (p := ⟨b, 0, none⟩) hl (fun e => h0 (by rw [← h.2]; exact e))).trans h.1, (hm.old b hl).trans h.2⟩
theorem Bx.lt {b : Nat} {v : Value} (h : Bx O w b v) : b < w.heap.size := lt_of_cell h.1
end

/-- Are the sizes tied? -/
def Tz (y : Sy) : Prop := y.tz = true
/-- The sizes, if they are tied. -/
def Szt (y : Sy) (O : Nat → Nat) (w : World) : Prop := Tz y → Class.SizTab w ∧ ∀ k, k ≤ 9 → O k = 0
theorem Szt.mv {P : Nat → Prop} {O O' : Nat → Nat} {w w' : World} {y : Sy} (h : Szt y O w) (hm : Mv P O O' w w') (h0 : ¬ P 0) : Szt y O' w' := fun hz =>
  have hs := h hz
  have hk := hs.1.blk
  have hb : Below (9 + 1) w w' := hm.chg.below (fun k hk2 => Classical.byContradiction fun e => h0 (by rw [← hs.2 k (by omega)]; exact hk2)) (by omega)
  ⟨hs.1.below hb (by omega), fun k hk2 => (hm.old k (by omega)).trans (hs.2 k hk2)⟩
/-- With its blocks that may come anew. -/
def dyn (y : Sy) (d : Ids) (ps : Nat → Option Addr) (cs : Nat → Nat) : Sy := { y with d := d, ps := ps, cs := cs }
/-- What is shared, in memory. -/
structure Sx (O : Nat → Nat) (y : Sy) (n nb : Nat) (w : World) (x : Sd) (d : Ids) (ps : Nat → Option Addr) (cs : Nat → Nat) : Prop where
  sh : ShIs w (dyn y d ps cs) (fun k => O k ≠ 0) x n nb
  own : ∀ k, ownS (dyn y d ps cs) nb k → O k = 1
  oS : O y.S = 2
  oP : ∀ g, rowB y.px g → O g = 2
  sz : Szt y O w
theorem bf_move {T T' S : Nat → Prop} {w w' : World} {B room : Nat} {xs : List Int} (h : BfIs T w B room xs) (hc : Chg S w w') (hS : ∀ k, S k → T k) (hB : ¬ S B) (hT : ∀ k, T' k → T k ∨ w.heap.size ≤ k) (hb : T' B) : BfIs T' w' B room xs := by
  have h2 := h.chg hc hS hB
  obtain ⟨p, cap, hr⟩ := h.row
  obtain ⟨p2, cap2, hr2⟩ := h2.row
  have e : Value.slice p xs.length cap = .slice p2 xs.length cap2 := Option.some.inj (((hc.cell (p := ⟨B, 0, none⟩) h.ltB hB).trans hr.c).symm.trans hr2.c)
  cases e
  exact ⟨h2.r1, h2.r2, h2.len, h2.c1, p, cap, hr2.len, hr2.c, hr2.f, hr2.rd, hr2.nc, hr2.le, fun g hg => ⟨fun e => (hT g e).elim (hr2.ap g hg).1 (fun e => by have := (hr.ap g hg).2; omega), (hr2.ap g hg).2⟩, hb⟩
theorem bx_move {T T' S : Nat → Prop} {w w' : World} {X : Nat} {ys : List Int} (h : BxIs T w X ys) (hc : Chg S w w') (hS : ∀ k, S k → T k) (hB : ¬ S X) (hT : ∀ k, T' k → T k ∨ w.heap.size ≤ k) (hb : T' X) : BxIs T' w' X ys := by
  obtain ⟨p, cap, hr⟩ := h
  have hr2 := hr.chg hc hS hB
  exact ⟨p, cap, hr2.len, hr2.c, hr2.f, hr2.rd, hr2.nc, hr2.le, fun g hg => ⟨fun e => (hT g e).elim (hr2.ap g hg).1 (fun e => by have := (hr.ap g hg).2; omega), (hr2.ap g hg).2⟩, hb⟩
theorem sh_move {S T T' : Nat → Prop} {w w' : World} {y : Sy} {x : Sd} {n nb : Nat} (h : ShIs w y T x n nb) (hc : Chg S w w') (hST : ∀ k, S k → T k) (hS : ∀ k, S k → ¬ ownS y nb k ∧ k ≠ y.S ∧ ¬ rowB y.px k)
    (hT : ∀ k, T' k → T k ∨ w.heap.size ≤ k) (hO : ∀ k, ownS y nb k → T' k) (hl : ∀ k, T' k → k < w'.heap.size) : ShIs w' y T' x n nb :=
  { h.chg hc hST hS with bx := fun i hi => bx_move (h.bx i hi) hc hST (fun e => (hS _ e).1 (.inr (.inr (.inr (.inr ⟨i, hi, rfl⟩))))) hT (hO _ (.inr (.inr (.inr (.inr ⟨i, hi, rfl⟩))))), hT := hO, tl := hl }
theorem mi_move {S T T' : Nat → Prop} {w w' : World} {y : Sy} {z : Ml} {m : Md} (h : MIs w y T z m) (hc : Chg S w w') (hST : ∀ k, S k → T k) (hS : ∀ k, S k → ¬ ownM z k ∧ k ≠ z.N ∧ ¬ rowB z.pp k)
    (hT : ∀ k, T' k → T k ∨ w.heap.size ≤ k) (hO : ∀ k, T k → T' k) (hl : ∀ k, T' k → k < w'.heap.size) : MIs w' y T' z m :=
  { h.chg hc hST hS with bf := bf_move h.bf hc hST (fun e => (hS _ e).1 (.inr (.inr (.inl rfl)))) hT (hO _ (h.hT _ (.inr (.inr (.inl rfl))))), hT := fun k hk => hO _ (h.hT k hk), tN := hO _ h.tN, tl := hl, nP := fun g hg => ⟨hO _ (h.nP g hg).1, (h.nP g hg).2⟩ }
section
variable {P : Nat → Prop} {O O' : Nat → Nat} {w w' : World} {y : Sy} {n nb : Nat} {x : Sd} {d : Ids} {ps : Nat → Option Addr} {cs : Nat → Nat}
theorem Sx.mv (h : Sx O y n nb w x d ps cs) (hm : Mv P O O' w w') (h0 : ¬ P 0) (h1 : ¬ P 1) (h2 : ¬ P 2) : Sx O' y n nb w' x d ps cs := by
  have hl : ∀ k, O k ≠ 0 → k < w.heap.size := h.sh.tl
  have hO : ∀ k, O k ≠ 0 → O' k = O k := fun k hk => hm.old k (hl k hk)
  have hO1 : ∀ k, ownS (dyn y d ps cs) nb k → O' k = 1 := fun k hk => by
    have := h.own k hk
    rw [hO k (by omega)]; exact this
  refine ⟨sh_move h.sh hm.chg (fun k hk e => h0 (by rw [← e]; exact hk)) (fun k hk => ⟨fun e => h1 (by rw [← h.own k e]; exact hk), fun e => h2 (by rw [← h.oS, show y.S = k from e.symm]; exact hk), fun e => h2 (by rw [← h.oP k e]; exact hk)⟩) (fun k hk => ?_) (fun k hk => by rw [hO1 k hk]; omega) hm.new, hO1, ?_, fun g hg => ?_, h.sz.mv hm h0⟩
  · by_cases hk2 : k < w.heap.size
    · rw [hm.old k hk2] at hk; exact .inl hk
    · exact .inr (by omega)
  · rw [hO _ (by rw [h.oS]; omega)]; exact h.oS
  · rw [hO _ (by rw [h.oP g hg]; omega)]; exact h.oP g hg
/-- The heap goes on. -/
theorem Sx.heapD {s' : St} {m' : Nat} {d' : Ids} (h : Sx O y n nb w x d ps cs) (hk : Okw O w) (g1 : Is w' y.H d' s' m') (g2 : Chg (Mine y.H d) w w') (g3 : ∀ j, Mine y.H d' j → Mine y.H d j ∨ w.heap.size ≤ j) :
    ∃ O', Mv (fun o => o = 1) O O' w w' ∧ Sx O' y n nb w' { x with s := s', m := m' } d' ps cs ∧ ∀ k, w.heap.size ≤ k → ¬ Mine y.H d' k → O' k = 0 := by
  classical
  have hs := h.sh
  have hz := g2.size
  have hold : ∀ k, ownS (dyn y d ps cs) nb k → k < w.heap.size := fun k hk => hs.tl k (hs.hT k hk)
  have hmine : ∀ k, Mine y.H d k → O k = 1 := fun k hk => h.own k (.inl hk)
  let O' : Nat → Nat := fun k => if k < w.heap.size then O k else if Mine y.H d' k then 1 else 0
  have eO : ∀ k, k < w.heap.size → O' k = O k := fun k hk => if_pos hk
  have eN : ∀ k, ¬ k < w.heap.size → O' k ≠ 0 → Mine y.H d' k := fun k hk hn => by
    by_cases e : Mine y.H d' k
    · exact e
    · exact absurd (show O' k = 0 by show (if _ then _ else _) = _; rw [if_neg hk, if_neg e]) hn
  have eM : ∀ k, Mine y.H d' k → O' k = 1 := fun k hk2 => by
    by_cases hl : k < w.heap.size
    · rw [eO k hl]; exact hmine k ((g3 k hk2).resolve_right (by omega))
    · show (if _ then _ else _) = _; rw [if_neg hl, if_pos hk2]
  have nm : ∀ k, k < w.heap.size → ¬ Mine y.H d k → ¬ Mine y.H d' k := fun k hk hn => To.not_mine g3 hn hk
  have hm : Mv (fun o => o = 1) O O' w w' := ⟨Chg.mono' g2 fun k hk => hmine k hk, eO, fun k hk2 => by
    by_cases hl : k < w.heap.size
    · omega
    · exact g1.lt (eN k hl hk2)⟩
  have c : ∀ {b o v}, w.cell? ⟨b, o, none⟩ = some v → O b ≠ 1 → w'.cell? ⟨b, o, none⟩ = some v := fun {b o v} e hn => (g2.cell (p := ⟨b, o, none⟩) (lt_of_cell e) (fun e2 => hn (hmine _ e2))).trans e
  have cS : ∀ {o v}, w.cell? ⟨y.S, o, none⟩ = some v → w'.cell? ⟨y.S, o, none⟩ = some v := fun {o v} e => c e (by rw [h.oS]; omega)
  have nB : ¬ Mine y.H d y.B := hs.dHB
  have hlB : y.B < w.heap.size := hold _ (.inr (.inl rfl))
  have hlF : y.F < w.heap.size := hold _ (.inr (.inr (.inr (.inl rfl))))
  have hlX : ∀ i, i < nb → y.X i < w.heap.size := fun i hi => hold _ (.inr (.inr (.inr (.inr ⟨i, hi, rfl⟩))))
  have hO' : ∀ k, ownS (dyn y d' ps cs) nb k → O' k = 1 := fun k hk2 => by
    rcases hk2 with e | e
    · exact eM k e
    · have h9 : ownS (dyn y d ps cs) nb k := .inr e
      rw [eO k (hold k h9)]; exact h.own k h9
  have tT : ∀ k, O' k ≠ 0 → O k ≠ 0 ∨ w.heap.size ≤ k := fun k hk2 => by
    by_cases hl : k < w.heap.size
    · rw [eO k hl] at hk2; exact .inl hk2
    · exact .inr (by omega)
  refine ⟨O', hm, ⟨⟨cS hs.c0, cS hs.c1, cS hs.c2, cS hs.c3, cS hs.c4, g1, hs.bd.chg g2 nB, hs.qu.chg g2 (fun k hk2 => (hs.dHQ k hk2).1), (g2.cell (p := ⟨y.F, 0, none⟩) hlF hs.dF.1).trans hs.fl, (g2.frozen (p := ⟨y.F, 0, none⟩) hlF hs.dF.1).trans hs.ff, fun i hi => ?_, fun i hi => ?_, fun k hk2 => by rw [hO' k hk2]; omega, hm.new, fun e => ?_, fun g hg e => ?_, nm _ hlB nB, fun k hk2 => ⟨nm k (hold k (.inr (.inr (.inl hk2)))) (hs.dHQ k hk2).1, (hs.dHQ k hk2).2⟩, ⟨nm _ hlF hs.dF.1, hs.dF.2⟩, fun i hi => ⟨nm _ (hlX i hi) (hs.dX i hi).1, (hs.dX i hi).2⟩, hs.dXX⟩, hO', ?_, fun g hg => ?_, h.sz.mv hm (by omega)⟩, fun k hk1 hk2 => ?_⟩
  · exact bx_move (hs.bx i hi) g2 (fun k hk2 => by rw [hmine k hk2]; omega) (hs.dX i hi).1 tT (by rw [hO' _ (.inr (.inr (.inr (.inr ⟨i, hi, rfl⟩))))]; omega)
  · obtain ⟨b, off, e, hcl⟩ := hs.pr i hi
    exact ⟨b, off, e, c hcl (by rw [h.oP b (by rw [show y.px = _ from e]; rfl)]; omega)⟩
  · have h9 : O' y.S = 1 := hO' _ e
    rw [eO y.S hs.ltS, h.oS] at h9; omega
  · have h8 := h.oP g hg
    have h9 := hO' _ e
    rw [eO _ (hk.lt g (by rw [h8]; omega)), h8] at h9; omega
  · rw [eO y.S hs.ltS]; exact h.oS
  · have h8 := h.oP g hg
    rw [eO _ (hk.lt g (by rw [h8]; omega))]; exact h8
  · show (if _ then _ else _) = _
    rw [if_neg (by omega), if_neg hk2]
theorem Sx.heap {s' : St} {m' : Nat} (h : Sx O y n nb w x d ps cs) (hk : Okw O w) (hT : To w w' y.H d s' m') : ∃ O' d', Mv (fun o => o = 1) O O' w w' ∧ Sx O' y n nb w' { x with s := s', m := m' } d' ps cs := by
  obtain ⟨d', g1, g2, g3⟩ := hT
  obtain ⟨O', h1, h2, _⟩ := h.heapD hk g1 g2 g3
  exact ⟨O', d', h1, h2⟩
end
end Go.Proofs.YtipifkgmhgkleaaGreatDoor.Mv

namespace Go.Proofs.YtipifkgmhgkleaaGreatDoor.Mv
open Go.RowKit
open Hp (Ids St Is To Mine)
open Lg (BfIs BxIs)
open Mu (Sy Sd ownS ShIs Ml Md ownM MIs lt_of_cell O4)
open Go.Proofs.YtipifkgmhgkleaaGreatDoor.Row (Chg rowB Rd)
open Go.Proofs.YtipifkgmhgkleaaGreatDoor.Addr (Tabs)

/-- A box that nobody turns, with several cells. -/
def Bi (O : Nat → Nat) (w : World) (b i : Nat) (v : Value) : Prop := w.cell? ⟨b, i, none⟩ = some v ∧ O b = 0
theorem Bi.mv {P : Nat → Prop} {O O' : Nat → Nat} {w w' : World} {b i : Nat} {v : Value} (h : Bi O w b i v) (hm : Mv P O O' w w') (h0 : ¬ P 0) : Bi O' w' b i v :=
  have hl : b < w.heap.size := lt_of_cell h.1
  ⟨(hm.chg.cell (p := ⟨b, i, none⟩) hl (fun e => h0 (by rw [← h.2]; exact e))).trans h.1, (hm.old b hl).trans h.2⟩
abbrev pt (a : Nat) : Value := .pointer (some ⟨a, 0, none⟩)
abbrev fn (f : FuncId) (cap : Array Value) : Value := .func (.func f) #[] cap
/-- What comes behind the header of an object: a load, or a store. -/
inductive Th | ld (o : O4) | st (o : O4)
/-- What is read. -/
inductive Rk | ldC (a : Int) (o : O4) | ldB (a : Int) (o : O4) | get (o : O4) | set (o : O4) | drop | move (o : O4) | born (a : Int)
/-- What is laid. -/
inductive Lk | fld (a : Int) (o : O4) | cel (o : O4)
/-- What a request asks. -/
inductive An | arm | sync | scan | drain | off
/-- A collector's steps that have nothing. -/
inductive Cm | sync | scan | trace | off | idle | search | drain | retrace | marked | take | done | rest
/-- The steps. -/
inductive K
  | fail (code : Int)
  | object (r f : Int) (t : Th)
  | take (r : Int) (rd : Rk)
  | safe
  | lay (v : Int) (la : Lk)
  | over (v : Int) (rd : Rk) (la : Lk)
  | slotA (k : Nat) (o : O4)
  | slotR (k : Nat) (o : O4)
  | assign (k : Nat) (o : O4)
  | late (k : Nat) (o : O4)
  | sdone (k : Nat) (o : O4)
  | sweepM (b col : Int) (L : List Int) (k : Nat) (o : O4)
  | put (sl : List Int) (a : Int) (o : O4)
  | begin (a : Int) (o : O4)
  | blank (a : Int) (f : Nat) (o : O4)
  | ans (t : An)
  | note (v c : Int) (t : K)
  | add (v : Int) (t : K)
  | pour (c : Int) (t : K)
  | paint (c : Int) (an : Bool) (t : K)
  | raise (t : K)
  | cm (t : Cm)
  | awt (m : Nat) (t : Cm)
  | cell (i : Nat)
  | look (v : Int) (t : K)
  | fields (a : Int) (t : K)
  | field (a : Int) (i n : Nat) (t : K)
  | boxes (e : Nat)
  | walk (sl : List Int)
  | cput (k : Nat) (b : Int) (t : K)
  | sweepC (b col : Int) (L : List Int)
  | row (l : List Int)
  | rk (t : Rk)
  | lk (t : Lk)
  | th (t : Th)
  | an (t : An)
  | ref (o : O4)
  | asg (k : Nat) (o : O4)
section
variable (O : Nat → Nat) (w : World) (a N : Nat)
/-- An operation in a box. -/
def Ob (b : Nat) (o : O4) : Prop := Bi O w b 0 (.int .i64 o.1) ∧ Bi O w b 1 (.int .i64 o.2.1) ∧ Bi O w b 2 (.int .i64 o.2.2.1) ∧ Bi O w b 3 (.int .i64 o.2.2.2)
def Thv : Th → Value → Prop
  | .ld o, v => ∃ b0 b1, v = fn 196 #[pt b0, pt b1] ∧ Bi O w b0 0 (pt a) ∧ Ob O w b1 o
  | .st o, v => ∃ b0 b1, v = fn 200 #[pt b0, pt b1] ∧ Bi O w b0 0 (pt a) ∧ Ob O w b1 o
def Rkv : Rk → Value → Prop
  | .ldC x o, v => ∃ b0 b1 b2, v = fn 198 #[pt b0, pt b1, pt b2] ∧ Bi O w b0 0 (pt a) ∧ Bi O w b1 0 (.int .i64 x) ∧ Ob O w b2 o
  | .ldB x o, v => ∃ b0 b1 b2, v = fn 201 #[pt b0, pt b1, pt b2] ∧ Bi O w b0 0 (pt a) ∧ Bi O w b1 0 (.int .i64 x) ∧ Ob O w b2 o
  | .get o, v => ∃ b0 b1, v = fn 205 #[pt b0, pt b1] ∧ Bi O w b0 0 (pt a) ∧ Ob O w b1 o
  | .set o, v => ∃ b0 b1, v = fn 207 #[pt b0, pt b1] ∧ Bi O w b0 0 (pt a) ∧ Ob O w b1 o
  | .drop, v => v = fn 210 #[]
  | .move o, v => ∃ b0 b1, v = fn 211 #[pt b0, pt b1] ∧ Bi O w b0 0 (pt a) ∧ Ob O w b1 o
  | .born x, v => ∃ b0 b1, v = fn 316 #[pt b0, pt b1] ∧ Bi O w b0 0 (.int .i64 x) ∧ Bi O w b1 0 (pt a)
def Lkv : Lk → Value → Prop
  | .fld x o, v => ∃ b0 b1 b2, v = fn 203 #[pt b0, pt b1, pt b2] ∧ Bi O w b0 0 (pt a) ∧ Bi O w b1 0 (.int .i64 x) ∧ Ob O w b2 o
  | .cel o, v => ∃ b0 b1, v = fn 208 #[pt b0, pt b1] ∧ Bi O w b0 0 (pt a) ∧ Ob O w b1 o
def Anv : An → Value → Prop
  | .arm, v => ∃ b0, v = fn 177 #[pt b0] ∧ Bi O w b0 0 (pt a)
  | .sync, v => v = fn 143 #[]
  | .scan, v => ∃ b0, v = fn 179 #[pt b0] ∧ Bi O w b0 0 (pt a)
  | .drain, v => ∃ b0, v = fn 183 #[pt b0] ∧ Bi O w b0 0 (pt a)
  | .off, v => ∃ b0, v = fn 184 #[pt b0] ∧ Bi O w b0 0 (pt a)
end
/-- A bound method of the collector. -/
def cmF : Cm → FuncId
  | .sync => 376
  | .scan => 379
  | .trace => 384
  | .off => 423
  | .idle => 428
  | .search => 386
  | .drain => 407
  | .retrace => 408
  | .marked => 409
  | .take => 415
  | .done => 424
  | .rest => 418
def cmV (a : Nat) (t : Cm) : Value := .func (.func (cmF t)) #[pt a] #[]
/-- A row of numbers that nobody turns. -/
def Rw (O : Nat → Nat) (w : World) (p : Option Addr) (cap : Nat) (l : List Int) : Prop := Rd w p l ∧ l.length ≤ cap ∧ ∀ g, rowB p g → O g = 0 ∧ g < w.heap.size
section
variable (O : Nat → Nat) (w : World) (a N : Nat)
def slRv (k : Nat) (o : O4) (v : Value) : Prop := ∃ b0 b1 b2 b3 c0, v = fn 241 #[pt b0, pt b1, pt b2, pt b3] ∧ Bi O w b0 0 (pt a) ∧ Bi O w b1 0 (.int .i64 k) ∧ Bi O w b2 0 (fn 190 #[pt c0]) ∧ Ob O w b3 o ∧ Bi O w c0 0 (pt a)
def laV (k : Nat) (o : O4) (v : Value) : Prop := ∃ b0 b1 b2 tv, v = fn 244 #[pt b0, pt b1, pt b2] ∧ Bi O w b0 0 (pt a) ∧ Bi O w b1 0 (.int .i64 k) ∧ Bi O w b2 0 tv ∧ slRv O w a k o tv
def sdV (k : Nat) (o : O4) (v : Value) : Prop := ∃ b0 b1 tv, v = fn 248 #[pt b0, pt b1] ∧ Bi O w b0 0 (pt a) ∧ Bi O w b1 0 tv ∧ slRv O w a k o tv
def bgV (x : Int) (o : O4) (v : Value) : Prop := ∃ b0 b1 b2, v = fn 285 #[pt b0, pt b1, pt b2] ∧ Bi O w b0 0 (pt a) ∧ Bi O w b1 0 (.int .i64 x) ∧ Ob O w b2 o
def lyV (x : Int) (la : Lk) (v : Value) : Prop := ∃ b0 b1 b2 lv, v = fn 259 #[pt b0, pt b1, pt b2] ∧ Bi O w b0 0 lv ∧ Bi O w b1 0 (.int .i64 x) ∧ Bi O w b2 0 (pt a) ∧ Lkv O w a la lv
/-- A step's closure. -/
def Ls : K → Value → Prop
  | .fail code, v => ∃ b0 b1, v = fn 112 #[pt b0, pt b1] ∧ Bi O w b0 0 (pt a) ∧ Bi O w b1 0 (.int .i64 code)
  | .object r f t, v => ∃ b0 b1 b2 b3 tv, v = fn 253 #[pt b0, pt b1, pt b2, pt b3] ∧ Bi O w b0 0 (pt a) ∧ Bi O w b1 0 (.int .i64 r) ∧ Bi O w b2 0 (.int .i64 f) ∧ Bi O w b3 0 tv ∧ Thv O w a t tv
  | .take r rd, v => ∃ b0 b1 b2 rv, v = fn 255 #[pt b0, pt b1, pt b2] ∧ Bi O w b0 0 rv ∧ Bi O w b1 0 (pt a) ∧ Bi O w b2 0 (.int .i64 r) ∧ Rkv O w a rd rv
  | .safe, v => ∃ b0, v = fn 212 #[pt b0] ∧ Bi O w b0 0 (pt a)
  | .lay x la, v => lyV O w a x la v
  | .over x rd la, v => ∃ b0 b1 b2 b3 rv tv, v = fn 260 #[pt b0, pt b1, pt b2, pt b3] ∧ Bi O w b0 0 rv ∧ Bi O w b1 0 (pt a) ∧ Bi O w b2 0 tv ∧ Bi O w b3 0 (.int .i64 x) ∧ Rkv O w a rd rv ∧ lyV O w a x la tv
  | .slotA k o, v => ∃ b0 b1 b2 b3 c0 c1 c2 c3 tv, v = fn 241 #[pt b0, pt b1, pt b2, pt b3] ∧ Bi O w b0 0 (pt a) ∧ Bi O w b1 0 (.int .i64 k) ∧ Bi O w b2 0 (fn 193 #[pt c0, pt c1, pt c2, pt c3]) ∧ Ob O w b3 o ∧
      Bi O w c0 0 (pt a) ∧ Bi O w c1 0 (.int .i64 k) ∧ Ob O w c2 o ∧ Bi O w c3 0 tv ∧ laV O w a k o tv
  | .slotR k o, v => slRv O w a k o v
  | .assign k o, v => ∃ b0 b1 b2 b3 tv, v = fn 250 #[pt b0, pt b1, pt b2, pt b3] ∧ Bi O w b0 0 (pt a) ∧ Bi O w b1 0 (.int .i64 k) ∧ Bi O w b2 0 tv ∧ Ob O w b3 o ∧ laV O w a k o tv
  | .late k o, v => laV O w a k o v
  | .sdone k o, v => sdV O w a k o v
  | .sweepM .., _ => False
  | .put sl x o, v => ∃ b0 b1 b2 b3 p cap tv, v = fn 296 #[pt b0, pt b1, pt b2, pt b3] ∧ Bi O w b0 0 (pt a) ∧ Bi O w b1 0 (.slice p sl.length cap) ∧ Bi O w b2 0 (.int .i64 ((sl.length : Int) - 1)) ∧ Bi O w b3 0 tv ∧ Rw O w p cap sl ∧ bgV O w a x o tv
  | .begin x o, v => bgV O w a x o v
  | .blank x f o, v => ∃ b0 b1 b2 b3, v = fn 318 #[pt b0, pt b1, pt b2, pt b3] ∧ Bi O w b0 0 (pt a) ∧ Bi O w b1 0 (.int .i64 x) ∧ Bi O w b2 0 (.int .i64 f) ∧ Ob O w b3 o
  | .ans t, v => ∃ b0 c0 c1 av, v = fn 239 #[pt b0] ∧ Bi O w b0 0 (fn 186 #[pt c0, pt c1]) ∧ Bi O w c0 0 av ∧ Bi O w c1 0 (pt a) ∧ Anv O w a t av
  | .note x c t, v => ∃ b0 b1 b2 b3 b4 tv, v = fn 232 #[pt b0, pt b1, pt b2, pt b3, pt b4] ∧ Bi O w b0 0 (pt N) ∧ Bi O w b1 0 (.int .i64 x) ∧ Bi O w b2 0 (.int .i64 c) ∧ Bi O w b3 0 tv ∧ Bi O w b4 0 (fn 230 #[pt b0, pt b1, pt b3]) ∧ Ls t tv
  | .add x t, v => ∃ b0 b1 b2 tv, v = fn 230 #[pt b0, pt b1, pt b2] ∧ Bi O w b0 0 (pt N) ∧ Bi O w b1 0 (.int .i64 x) ∧ Bi O w b2 0 tv ∧ Ls t tv
  | .pour c t, v => ∃ b0 b1 b2 tv, v = fn 236 #[pt b0, pt b1, pt b2] ∧ Bi O w b0 0 (pt N) ∧ Bi O w b1 0 tv ∧ Bi O w b2 0 (.int .i64 c) ∧ Ls t tv
  | .paint c an t, v => ∃ b0 b1 b2 b3 tv, v = fn 278 #[pt b0, pt b1, pt b2, pt b3] ∧ Bi O w b0 0 (pt N) ∧ Bi O w b1 0 (.int .i64 c) ∧ Bi O w b2 0 (.bool an) ∧ Bi O w b3 0 tv ∧ Ls t tv
  | .raise t, v => ∃ b0 b1 tv, v = fn 281 #[pt b0, pt b1] ∧ Bi O w b0 0 (pt N) ∧ Bi O w b1 0 tv ∧ Ls t tv
  | .cm t, v => v = cmV a t
  | .awt m t, v => ∃ b0 b1 b2, v = fn 382 #[pt b0, pt b1, pt b2] ∧ Bi O w b0 0 (pt a) ∧ Bi O w b1 0 (.int .i64 m) ∧ Bi O w b2 0 (cmV a t)
  | .cell i, v => ∃ b0 b1, v = fn 387 #[pt b0, pt b1] ∧ Bi O w b0 0 (pt a) ∧ Bi O w b1 0 (.int .i64 i)
  | .look x t, v => ∃ b0 b1 b2 tv, v = fn 392 #[pt b0, pt b1, pt b2] ∧ Bi O w b0 0 (pt a) ∧ Bi O w b1 0 (.int .i64 x) ∧ Bi O w b2 0 tv ∧ Ls t tv
  | .fields x t, v => ∃ b0 b1 b2 tv, v = fn 396 #[pt b0, pt b1, pt b2] ∧ Bi O w b0 0 (pt a) ∧ Bi O w b1 0 (.int .i64 x) ∧ Bi O w b2 0 tv ∧ Ls t tv
  | .field x i n t, v => ∃ b0 b1 b2 b3 b4 tv, v = fn 402 #[pt b0, pt b1, pt b2, pt b3, pt b4] ∧ Bi O w b0 0 (pt a) ∧ Bi O w b1 0 (.int .i64 x) ∧ Bi O w b2 0 (.int .i64 i) ∧ Bi O w b3 0 (.int .i64 n) ∧ Bi O w b4 0 tv ∧ Ls t tv
  | .boxes e, v => ∃ b0 b1, v = fn 398 #[pt b0, pt b1] ∧ Bi O w b0 0 (.int .i64 e) ∧ Bi O w b1 0 (pt a)
  | .walk sl, v => ∃ b0 b1 p cap, v = fn 412 #[pt b0, pt b1] ∧ Bi O w b0 0 (.slice p sl.length cap) ∧ Bi O w b1 0 (pt a) ∧ Rw O w p cap sl
  | .cput k x t, v => ∃ b0 b1 b2 b3 tv, v = fn 420 #[pt b0, pt b1, pt b2, pt b3] ∧ Bi O w b0 0 (pt a) ∧ Bi O w b1 0 (.int .i64 k) ∧ Bi O w b2 0 (.int .i64 x) ∧ Bi O w b3 0 tv ∧ Ls t tv
  | .sweepC .., _ => False
  | .row l, v => ∃ p cap, v = .slice p l.length cap ∧ Rw O w p cap l
  | .rk t, v => Rkv O w a t v
  | .lk t, v => Lkv O w a t v
  | .th t, v => Thv O w a t v
  | .an t, v => Anv O w a t v
  | .ref _, v => ∃ c0, v = fn 190 #[pt c0] ∧ Bi O w c0 0 (pt a)
  | .asg k o, v => ∃ c0 c1 c2 c3 tv, v = fn 193 #[pt c0, pt c1, pt c2, pt c3] ∧ Bi O w c0 0 (pt a) ∧ Bi O w c1 0 (.int .i64 k) ∧ Ob O w c2 o ∧ Bi O w c3 0 tv ∧ laV O w a k o tv
end
section
variable {P : Nat → Prop} {O O' : Nat → Nat} {w w' : World} {a N : Nat}
theorem Ob.mv {b : Nat} {o : O4} (h : Ob O w b o) (hm : Mv P O O' w w') (h0 : ¬ P 0) : Ob O' w' b o := ⟨h.1.mv hm h0, h.2.1.mv hm h0, h.2.2.1.mv hm h0, h.2.2.2.mv hm h0⟩
theorem Rw.mv {p : Option Addr} {cap : Nat} {l : List Int} (h : Rw O w p cap l) (hm : Mv P O O' w w') (h0 : ¬ P 0) : Rw O' w' p cap l :=
  ⟨h.1.chg hm.chg (fun g hg e => h0 (by rw [← (h.2.2 g hg).1]; exact e)), h.2.1, fun g hg => ⟨(hm.old g (h.2.2 g hg).2).trans (h.2.2 g hg).1, Nat.lt_of_lt_of_le (h.2.2 g hg).2 hm.chg.size⟩⟩
theorem Thv.mv {t : Th} {v : Value} (h : Thv O w a t v) (hm : Mv P O O' w w') (h0 : ¬ P 0) : Thv O' w' a t v := by
  cases t with
  | _ o =>
    obtain ⟨b0, b1, e, h1, h2⟩ := h
    exact ⟨b0, b1, e, h1.mv hm h0, h2.mv hm h0⟩
theorem Rkv.mv {t : Rk} {v : Value} (h : Rkv O w a t v) (hm : Mv P O O' w w') (h0 : ¬ P 0) : Rkv O' w' a t v := by
  cases t with
  | ldC x o => obtain ⟨b0, b1, b2, e, h1, h2, h3⟩ := h; exact ⟨b0, b1, b2, e, h1.mv hm h0, h2.mv hm h0, h3.mv hm h0⟩
  | ldB x o => obtain ⟨b0, b1, b2, e, h1, h2, h3⟩ := h; exact ⟨b0, b1, b2, e, h1.mv hm h0, h2.mv hm h0, h3.mv hm h0⟩
  | get o => obtain ⟨b0, b1, e, h1, h2⟩ := h; exact ⟨b0, b1, e, h1.mv hm h0, h2.mv hm h0⟩
  | set o => obtain ⟨b0, b1, e, h1, h2⟩ := h; exact ⟨b0, b1, e, h1.mv hm h0, h2.mv hm h0⟩
  | drop => exact h
  | move o => obtain ⟨b0, b1, e, h1, h2⟩ := h; exact ⟨b0, b1, e, h1.mv hm h0, h2.mv hm h0⟩
  | born x => obtain ⟨b0, b1, e, h1, h2⟩ := h; exact ⟨b0, b1, e, h1.mv hm h0, h2.mv hm h0⟩
theorem Lkv.mv {t : Lk} {v : Value} (h : Lkv O w a t v) (hm : Mv P O O' w w') (h0 : ¬ P 0) : Lkv O' w' a t v := by
  cases t with
  | fld x o => obtain ⟨b0, b1, b2, e, h1, h2, h3⟩ := h; exact ⟨b0, b1, b2, e, h1.mv hm h0, h2.mv hm h0, h3.mv hm h0⟩
  | cel o => obtain ⟨b0, b1, e, h1, h2⟩ := h; exact ⟨b0, b1, e, h1.mv hm h0, h2.mv hm h0⟩
theorem Anv.mv {t : An} {v : Value} (h : Anv O w a t v) (hm : Mv P O O' w w') (h0 : ¬ P 0) : Anv O' w' a t v := by
  cases t with
  | sync => exact h
  | _ => obtain ⟨b0, e, h1⟩ := h; exact ⟨b0, e, h1.mv hm h0⟩
theorem slRv.mv {k : Nat} {o : O4} {v : Value} (h : slRv O w a k o v) (hm : Mv P O O' w w') (h0 : ¬ P 0) : slRv O' w' a k o v := by
  obtain ⟨b0, b1, b2, b3, c0, e, h1, h2, h3, h4, h5⟩ := h
  exact ⟨b0, b1, b2, b3, c0, e, h1.mv hm h0, h2.mv hm h0, h3.mv hm h0, h4.mv hm h0, h5.mv hm h0⟩
theorem laV.mv {k : Nat} {o : O4} {v : Value} (h : laV O w a k o v) (hm : Mv P O O' w w') (h0 : ¬ P 0) : laV O' w' a k o v := by
  obtain ⟨b0, b1, b2, tv, e, h1, h2, h3, h4⟩ := h
  exact ⟨b0, b1, b2, tv, e, h1.mv hm h0, h2.mv hm h0, h3.mv hm h0, h4.mv hm h0⟩
theorem sdV.mv {k : Nat} {o : O4} {v : Value} (h : sdV O w a k o v) (hm : Mv P O O' w w') (h0 : ¬ P 0) : sdV O' w' a k o v := by
  obtain ⟨b0, b1, tv, e, h1, h3, h4⟩ := h
  exact ⟨b0, b1, tv, e, h1.mv hm h0, h3.mv hm h0, h4.mv hm h0⟩
theorem bgV.mv {x : Int} {o : O4} {v : Value} (h : bgV O w a x o v) (hm : Mv P O O' w w') (h0 : ¬ P 0) : bgV O' w' a x o v := by
  obtain ⟨b0, b1, b2, e, h1, h2, h3⟩ := h
  exact ⟨b0, b1, b2, e, h1.mv hm h0, h2.mv hm h0, h3.mv hm h0⟩
theorem lyV.mv {x : Int} {la : Lk} {v : Value} (h : lyV O w a x la v) (hm : Mv P O O' w w') (h0 : ¬ P 0) : lyV O' w' a x la v := by
  obtain ⟨b0, b1, b2, lv, e, h1, h2, h3, h4⟩ := h
  exact ⟨b0, b1, b2, lv, e, h1.mv hm h0, h2.mv hm h0, h3.mv hm h0, h4.mv hm h0⟩
theorem Ls.mv (hm : Mv P O O' w w') (h0 : ¬ P 0) (q : K) : ∀ v, Ls O w a N q v → Ls O' w' a N q v := by
  induction q with
  | fail code => rintro v ⟨b0, b1, e, h1, h2⟩; exact ⟨b0, b1, e, h1.mv hm h0, h2.mv hm h0⟩
  | object r f t => rintro v ⟨b0, b1, b2, b3, tv, e, h1, h2, h3, h4, h5⟩; exact ⟨b0, b1, b2, b3, tv, e, h1.mv hm h0, h2.mv hm h0, h3.mv hm h0, h4.mv hm h0, h5.mv hm h0⟩
  | take r rd => rintro v ⟨b0, b1, b2, tv, e, h1, h2, h3, h5⟩; exact ⟨b0, b1, b2, tv, e, h1.mv hm h0, h2.mv hm h0, h3.mv hm h0, h5.mv hm h0⟩
  | safe => rintro v ⟨b0, e, h1⟩; exact ⟨b0, e, h1.mv hm h0⟩
  | lay x la => exact fun v h => lyV.mv h hm h0
  | over x rd la => rintro v ⟨b0, b1, b2, b3, rv, tv, e, h1, h2, h3, h4, h5, h6⟩; exact ⟨b0, b1, b2, b3, rv, tv, e, h1.mv hm h0, h2.mv hm h0, h3.mv hm h0, h4.mv hm h0, h5.mv hm h0, h6.mv hm h0⟩
  | slotA k o => rintro v ⟨b0, b1, b2, b3, c0, c1, c2, c3, tv, e, h1, h2, h3, h4, h5, h6, h7, h8, h9⟩; exact ⟨b0, b1, b2, b3, c0, c1, c2, c3, tv, e, h1.mv hm h0, h2.mv hm h0, h3.mv hm h0, h4.mv hm h0, h5.mv hm h0, h6.mv hm h0, h7.mv hm h0, h8.mv hm h0, h9.mv hm h0⟩
  | slotR k o => exact fun v h => slRv.mv h hm h0
  | assign k o => rintro v ⟨b0, b1, b2, b3, tv, e, h1, h2, h3, h4, h5⟩; exact ⟨b0, b1, b2, b3, tv, e, h1.mv hm h0, h2.mv hm h0, h3.mv hm h0, h4.mv hm h0, h5.mv hm h0⟩
  | late k o => exact fun v h => laV.mv h hm h0
  | sdone k o => exact fun v h => sdV.mv h hm h0
  | sweepM => exact fun v h => h
  | put sl x o => rintro v ⟨b0, b1, b2, b3, p, cap, tv, e, h1, h2, h3, h4, h5, h6⟩; exact ⟨b0, b1, b2, b3, p, cap, tv, e, h1.mv hm h0, h2.mv hm h0, h3.mv hm h0, h4.mv hm h0, h5.mv hm h0, h6.mv hm h0⟩
  | begin x o => exact fun v h => bgV.mv h hm h0
  | blank x f o => rintro v ⟨b0, b1, b2, b3, e, h1, h2, h3, h4⟩; exact ⟨b0, b1, b2, b3, e, h1.mv hm h0, h2.mv hm h0, h3.mv hm h0, h4.mv hm h0⟩
  | ans t => rintro v ⟨b0, c0, c1, av, e, h1, h2, h3, h4⟩; exact ⟨b0, c0, c1, av, e, h1.mv hm h0, h2.mv hm h0, h3.mv hm h0, h4.mv hm h0⟩
  | note x c t ih => rintro v ⟨b0, b1, b2, b3, b4, tv, e, h1, h2, h3, h4, h5, h6⟩; exact ⟨b0, b1, b2, b3, b4, tv, e, h1.mv hm h0, h2.mv hm h0, h3.mv hm h0, h4.mv hm h0, h5.mv hm h0, ih _ h6⟩
  | add x t ih => rintro v ⟨b0, b1, b2, tv, e, h1, h2, h3, h4⟩; exact ⟨b0, b1, b2, tv, e, h1.mv hm h0, h2.mv hm h0, h3.mv hm h0, ih _ h4⟩
  | pour c t ih => rintro v ⟨b0, b1, b2, tv, e, h1, h2, h3, h4⟩; exact ⟨b0, b1, b2, tv, e, h1.mv hm h0, h2.mv hm h0, h3.mv hm h0, ih _ h4⟩
  | paint c an t ih => rintro v ⟨b0, b1, b2, b3, tv, e, h1, h2, h3, h4, h5⟩; exact ⟨b0, b1, b2, b3, tv, e, h1.mv hm h0, h2.mv hm h0, h3.mv hm h0, h4.mv hm h0, ih _ h5⟩
  | raise t ih => rintro v ⟨b0, b1, tv, e, h1, h2, h3⟩; exact ⟨b0, b1, tv, e, h1.mv hm h0, h2.mv hm h0, ih _ h3⟩
  | cm t => exact fun v h => h
  | awt m t => rintro v ⟨b0, b1, b2, e, h1, h2, h3⟩; exact ⟨b0, b1, b2, e, h1.mv hm h0, h2.mv hm h0, h3.mv hm h0⟩
  | cell i => rintro v ⟨b0, b1, e, h1, h2⟩; exact ⟨b0, b1, e, h1.mv hm h0, h2.mv hm h0⟩
  | look x t ih => rintro v ⟨b0, b1, b2, tv, e, h1, h2, h3, h4⟩; exact ⟨b0, b1, b2, tv, e, h1.mv hm h0, h2.mv hm h0, h3.mv hm h0, ih _ h4⟩
  | fields x t ih => rintro v ⟨b0, b1, b2, tv, e, h1, h2, h3, h4⟩; exact ⟨b0, b1, b2, tv, e, h1.mv hm h0, h2.mv hm h0, h3.mv hm h0, ih _ h4⟩
  | field x i n t ih => rintro v ⟨b0, b1, b2, b3, b4, tv, e, h1, h2, h3, h4, h5, h6⟩; exact ⟨b0, b1, b2, b3, b4, tv, e, h1.mv hm h0, h2.mv hm h0, h3.mv hm h0, h4.mv hm h0, h5.mv hm h0, ih _ h6⟩
  | boxes e => rintro v ⟨b0, b1, e, h1, h2⟩; exact ⟨b0, b1, e, h1.mv hm h0, h2.mv hm h0⟩
  | walk sl => rintro v ⟨b0, b1, p, cap, e, h1, h2, h3⟩; exact ⟨b0, b1, p, cap, e, h1.mv hm h0, h2.mv hm h0, h3.mv hm h0⟩
  | cput k x t ih => rintro v ⟨b0, b1, b2, b3, tv, e, h1, h2, h3, h4, h5⟩; exact ⟨b0, b1, b2, b3, tv, e, h1.mv hm h0, h2.mv hm h0, h3.mv hm h0, h4.mv hm h0, ih _ h5⟩
  | sweepC => exact fun v h => h
  | row l => rintro v ⟨p, cap, e, h1⟩; exact ⟨p, cap, e, h1.mv hm h0⟩
  | rk t => exact fun v h => Rkv.mv h hm h0
  | lk t => exact fun v h => Lkv.mv h hm h0
  | th t => exact fun v h => Thv.mv h hm h0
  | an t => exact fun v h => Anv.mv h hm h0
  | ref o => rintro v ⟨c0, e, h1⟩; exact ⟨c0, e, h1.mv hm h0⟩
  | asg k o => rintro v ⟨c0, c1, c2, c3, tv, e, h1, h2, h3, h4, h5⟩; exact ⟨c0, c1, c2, c3, tv, e, h1.mv hm h0, h2.mv hm h0, h3.mv hm h0, h4.mv hm h0, h5.mv hm h0⟩
end
end Go.Proofs.YtipifkgmhgkleaaGreatDoor.Mv

namespace Go.Proofs.YtipifkgmhgkleaaGreatDoor.Mv
open Go.RowKit
open Hp (Ids St Is To Mine)
open Lg (BfIs BxIs)
open Mu (Sy Sd ownS ShIs Ml Md ownM MIs lt_of_cell O4 CellsL mutA)
open Go.Proofs.YtipifkgmhgkleaaGreatDoor.Row (Chg rowB Rd)
open Go.Proofs.YtipifkgmhgkleaaGreatDoor.Addr (Tabs)

/-- One's own part: it stays when what is shared turns. -/
structure Rs where
  r : (Nat → Nat) → World → Prop
  st : ∀ {O O' : Nat → Nat} {w w' : World}, Mv (fun o => o = 1) O O' w w' → r O w → r O' w'
structure Ba where
  w : World
  O : Nat → Nat
  P : Nat → Prop
  y : Sy
  n : Nat
  nb : Nat
  a : Nat
  N : Nat
  p0 : ¬ P 0
  p1 : P 1
structure CxO (b : Ba) (R : Rs) (w : World) (x : Sd) (L : List (Nat × Nat × Value)) (Q : List (K × Value)) (O : Nat → Nat) (d : Ids) (ps : Nat → Option Addr) (cs : Nat → Nat) : Prop where
  mv : Mv b.P b.O O b.w w
  ok : Okw O w
  sx : Sx O b.y b.n b.nb w x d ps cs
  r : R.r O w
  L : ∀ p ∈ L, Bi O w p.1 p.2.1 p.2.2
  Q : ∀ p ∈ Q, Ls O w b.a b.N p.1 p.2
def Cx (b : Ba) (R : Rs) (w : World) (x : Sd) (L : List (Nat × Nat × Value)) (Q : List (K × Value)) : Prop := ∃ O d ps cs, CxO b R w x L Q O d ps cs
section
variable {b : Ba} {R R' : Rs} {w w' : World} {x x' : Sd} {L : List (Nat × Nat × Value)} {Q : List (K × Value)} {O O' : Nat → Nat} {d d' : Ids} {ps ps' : Nat → Option Addr} {cs cs' : Nat → Nat}
/-- A move of owners that b allows, but none of boxes. -/
theorem CxO.move {P : Nat → Prop} (h : CxO b R w x L Q O d ps cs) (hm : Mv P O O' w w') (hP : ∀ o, P o → b.P o) (hs : Sx O' b.y b.n b.nb w' x' d' ps' cs') (hr : R'.r O' w') : CxO b R' w' x' L Q O' d' ps' cs' :=
  have h0 : ¬ P 0 := fun e => b.p0 (hP 0 e)
  ⟨h.mv.trans (hm.mono hP), h.ok.mv hm h0, hs, hr, fun p hp => (h.L p hp).mv hm h0, fun p hp => Ls.mv hm h0 _ _ (h.Q p hp)⟩
theorem CxO.later (h : CxO b R w x L Q O d ps cs) (hb : Below w.heap.size w w') : CxO b R w' x L Q O d ps cs := by
  have hm : Mv (fun _ => False) O O w w' := Mv.later h.ok hb
  exact h.move hm (fun _ e => e.elim) (h.sx.mv hm id id id) (R.st (hm.mono fun _ e => e.elim) h.r)
theorem Cx.later (h : Cx b R w x L Q) (hb : Below w.heap.size w w') : Cx b R w' x L Q := by
  obtain ⟨O, d, ps, cs, h⟩ := h
  exact ⟨O, d, ps, cs, h.later hb⟩
theorem Cx.drewN (h : Cx b R w x L Q) (q : Nat) : Cx b R (w.drewN q) x L Q := h.later (below_drewN (Below.refl _ _) q)
theorem Cx.drew (h : Cx b R w x L Q) : Cx b R w.drew x L Q := h.later (Below.refl _ _).drew
/-- The heap goes on. -/
theorem CxO.heap {s' : St} {m' : Nat} (h : CxO b R w x L Q O d ps cs) (hT : To w w' b.y.H d s' m') : Cx b R w' { x with s := s', m := m' } L Q := by
  obtain ⟨O', d', hm, hs⟩ := h.sx.heap h.ok hT
  exact ⟨O', d', ps, cs, h.move hm (fun _ e => e ▸ b.p1) hs (R.st hm h.r)⟩
/-- What is one's own turns. -/
theorem CxO.own {S : Nat → Prop} {o : Nat} (h : CxO b R w x L Q O d ps cs) (hc : Chg S w w') (hS : ∀ k, S k → O k = o) (hP : b.P o) (h1 : o ≠ 1) (h2 : o ≠ 2) (hr : R'.r O w') : CxO b R' w' x L Q O d ps cs := by
  have hm : Mv (fun k => k = o) O O w w' := Mv.own h.ok hc hS
  exact h.move hm (fun _ e => e ▸ hP) (h.sx.mv hm (fun e => b.p0 (e ▸ hP)) (fun e => h1 e.symm) (fun e => h2 e.symm)) hr
theorem Cx.at (h : Cx b R w x L Q) {k i : Nat} {v : Value} (hm : (k, i, v) ∈ L) : w.cell? ⟨k, i, none⟩ = some v := by
  obtain ⟨O, d, ps, cs, h⟩ := h
  exact (h.L _ hm).1
theorem Cx.less (h : Cx b R w x L Q) {L' : List (Nat × Nat × Value)} {Q' : List (K × Value)} (hL : ∀ p ∈ L', p ∈ L) (hQ : ∀ p ∈ Q', p ∈ Q) : Cx b R w x L' Q' := by
  obtain ⟨O, d, ps, cs, h⟩ := h
  exact ⟨O, d, ps, cs, h.mv, h.ok, h.sx, h.r, fun p hp => h.L p (hL p hp), fun p hp => h.Q p (hQ p hp)⟩
/-- Another closure. -/
theorem Cx.push (h : Cx b R w x L Q) {q : K} {v : Value} (hq : ∀ O, (∀ p ∈ L, Bi O w p.1 p.2.1 p.2.2) → (∀ p ∈ Q, Ls O w b.a b.N p.1 p.2) → Ls O w b.a b.N q v) : Cx b R w x L ((q, v) :: Q) := by
  obtain ⟨O, d, ps, cs, h⟩ := h
  exact ⟨O, d, ps, cs, h.mv, h.ok, h.sx, h.r, h.L, fun p hp => (List.mem_cons.1 hp).elim (fun e => e ▸ hq O h.L h.Q) (h.Q p)⟩
/-- Boxes laid. -/
def allocs (w : World) : List (List Value × TypeId) → World
  | [] => w
  | p :: r => allocs (w.alloc (.cells p.1.toArray p.2)) r
def cellsOf (b : Nat) : Nat → List Value → List (Nat × Nat × Value)
  | _, [] => []
  | i, v :: l => (b, i, v) :: cellsOf b (i + 1) l
def bxs (n : Nat) : List (List Value × TypeId) → List (Nat × Nat × Value)
  | [] => []
  | p :: r => cellsOf n 0 p.1 ++ bxs (n + 1) r
theorem mem_cellsOf {b : Nat} {p : Nat × Nat × Value} : ∀ (l : List Value) (i : Nat), p ∈ cellsOf b i l → p.1 = b ∧ ∃ j, p.2.1 = i + j ∧ l[j]? = some p.2.2 := by
  intro l
  induction l with
  | nil => intro i h; cases h
  | cons v l ih =>
    intro i h
    rcases List.mem_cons.1 h with rfl | h
    · exact ⟨rfl, 0, rfl, rfl⟩
    · obtain ⟨e, j, e2, e3⟩ := ih (i + 1) h
      exact ⟨e, j + 1, by omega, by rw [List.getElem?_cons_succ]; exact e3⟩
theorem Cx.alloc1 (h : Cx b R w x L Q) (l : List Value) (t : TypeId) : Cx b R (w.alloc (.cells l.toArray t)) x (cellsOf w.heap.size 0 l ++ L) Q := by
  obtain ⟨O, d, ps, cs, h⟩ := h
  have h2 := h.later (w' := w.alloc (.cells l.toArray t)) ((Below.refl _ _).alloc (Nat.le_refl _) _)
  refine ⟨O, d, ps, cs, h2.mv, h2.ok, h2.sx, h2.r, fun p hp => ?_, h2.Q⟩
  rcases List.mem_append.1 hp with hp | hp
  · obtain ⟨e1, j, e2, e3⟩ := mem_cellsOf l 0 hp
    rw [Nat.zero_add] at e2
    rw [e1, e2]
    refine ⟨?_, Classical.byContradiction fun e => by have := h.ok.lt _ e; omega⟩
    rw [World.cell?_alloc_new]
    simpa using e3
  · exact h2.L p hp
theorem Cx.allocs (h : Cx b R w x L Q) (l : List (List Value × TypeId)) : Cx b R (allocs w l) x (bxs w.heap.size l ++ L) Q := by
  induction l generalizing w L with
  | nil => exact h
  | cons p r ih =>
    have h2 := ih (h.alloc1 p.1 p.2)
    rw [World.size_alloc] at h2
    exact h2.less (fun q hq => by
      rcases List.mem_append.1 hq with hq | hq
      · rcases List.mem_append.1 (show q ∈ cellsOf w.heap.size 0 p.1 ++ bxs (w.heap.size + 1) r from hq) with hq | hq
        · exact List.mem_append_right _ (List.mem_append_left _ hq)
        · exact List.mem_append_left _ hq
      · exact List.mem_append_right _ (List.mem_append_right _ hq)) (fun _ hp => hp)
theorem Cx.s0 (h : Cx b R w x L Q) : w.cell? ⟨b.y.S, 0, none⟩ = some (.pointer (some ⟨b.y.H, 0, none⟩)) := by obtain ⟨O, d, ps, cs, h⟩ := h; exact h.sx.sh.c0
theorem Cx.s1 (h : Cx b R w x L Q) : w.cell? ⟨b.y.S, 1, none⟩ = some (.pointer (some ⟨b.y.B, 0, none⟩)) := by obtain ⟨O, d, ps, cs, h⟩ := h; exact h.sx.sh.c1
theorem Cx.s2 (h : Cx b R w x L Q) : w.cell? ⟨b.y.S, 2, none⟩ = some (.pointer (some ⟨b.y.Q, 0, none⟩)) := by obtain ⟨O, d, ps, cs, h⟩ := h; exact h.sx.sh.c2
theorem Cx.s3 (h : Cx b R w x L Q) : w.cell? ⟨b.y.S, 3, none⟩ = some (.pointer (some ⟨b.y.F, 0, none⟩)) := by obtain ⟨O, d, ps, cs, h⟩ := h; exact h.sx.sh.c3
theorem Cx.s4 (h : Cx b R w x L Q) : w.cell? ⟨b.y.S, 4, none⟩ = some (.slice b.y.px b.nb b.y.cx) := by obtain ⟨O, d, ps, cs, h⟩ := h; exact h.sx.sh.c4
theorem Cx.ltS (h : Cx b R w x L Q) : b.y.S < w.heap.size := lt_of_cell h.s0
theorem CxO.tabs (h : CxO b R w x L Q O d ps cs) (hz : Tz b.y) : Tabs w := ⟨h.ok.lim, (h.sx.sz hz).1⟩
theorem Cx.tabs (h : Cx b R w x L Q) (hz : Tz b.y) : Tabs w := by obtain ⟨O, d, ps, cs, h⟩ := h; exact h.tabs hz
end
/-- A mutator's own part. -/
structure Mx (O : Nat → Nat) (y : Sy) (w : World) (z : Ml) (m : Md) : Prop where
  mi : MIs w y (fun k => O k ≠ 0) z m
  own : ∀ k, ownM z k → O k = 4 + z.id
  oN : O z.N = 2
  oP : ∀ g, rowB z.pp g → O g = 2
/-- With its row of results, which may come anew. -/
def dynM (z : Ml) (p : Option Addr) (c : Nat) : Ml := { z with pr := p, cr := c }
theorem Mx.mv {P : Nat → Prop} {O O' : Nat → Nat} {w w' : World} {y : Sy} {z : Ml} {m : Md} (h : Mx O y w z m) (hm : Mv P O O' w w') (h0 : ¬ P 0) (h2 : ¬ P 2) (h4 : ¬ P (4 + z.id)) : Mx O' y w' z m := by
  have hl : ∀ k, O k ≠ 0 → k < w.heap.size := h.mi.tl
  have hO : ∀ k, O k ≠ 0 → O' k = O k := fun k hk => hm.old k (hl k hk)
  refine ⟨mi_move h.mi hm.chg (fun k hk e => h0 (by rw [← e]; exact hk)) (fun k hk => ⟨fun e => h4 (by rw [← h.own k e]; exact hk), fun e => h2 (by rw [← h.oN, show z.N = k from e.symm]; exact hk), fun e => h2 (by rw [← h.oP k e]; exact hk)⟩) (fun k hk => ?_) (fun k hk => by rw [hO k hk]; exact hk) hm.new, fun k hk => ?_, ?_, fun g hg => ?_⟩
  · by_cases hk2 : k < w.heap.size
    · rw [hm.old k hk2] at hk; exact .inl hk
    · exact .inr (by omega)
  · have := h.own k hk
    rw [hO k (by omega)]; exact this
  · rw [hO _ (by rw [h.oN]; omega)]; exact h.oN
  · rw [hO _ (by rw [h.oP g hg]; omega)]; exact h.oP g hg
def mxR (y : Sy) (z : Ml) (m : Md) : Rs where
  r O w := ∃ p c, Mx O y w (dynM z p c) m
  st hm := fun ⟨p, c, h⟩ => ⟨p, c, h.mv hm (by omega) (by omega) (by show ¬ 4 + z.id = 1; omega)⟩
section
variable {b : Ba} {z : Ml} {m : Md} {w : World} {x : Sd} {L : List (Nat × Nat × Value)} {Q : List (K × Value)}
theorem Cx.mi (h : Cx b (mxR b.y z m) w x L Q) : ∃ p c T, MIs w b.y T (dynM z p c) m := by
  obtain ⟨O, d, ps, cs, h⟩ := h
  obtain ⟨p, c, h2⟩ := h.r
  exact ⟨p, c, _, h2.mi⟩
theorem Cx.m0 (h : Cx b (mxR b.y z m) w x L Q) : w.cell? ⟨z.M, 0, none⟩ = some (.pointer (some ⟨b.y.S, 0, none⟩)) := by obtain ⟨_, _, _, h⟩ := h.mi; exact h.c0
theorem Cx.m1 (h : Cx b (mxR b.y z m) w x L Q) : w.cell? ⟨z.M, 1, none⟩ = some (.int .i64 z.id) := by obtain ⟨_, _, _, h⟩ := h.mi; exact h.c1
theorem Cx.m2 (h : Cx b (mxR b.y z m) w x L Q) : w.cell? ⟨z.M, 2, none⟩ = some (.slice (some ⟨z.G, 0, none⟩) m.rg.length m.rg.length) := by obtain ⟨_, _, _, h⟩ := h.mi; exact h.c2
theorem Cx.m3 (h : Cx b (mxR b.y z m) w x L Q) : w.cell? ⟨z.M, 3, none⟩ = some (.pointer (some ⟨z.B, 0, none⟩)) := by obtain ⟨_, _, _, h⟩ := h.mi; exact h.c3
theorem Cx.m5 (h : Cx b (mxR b.y z m) w x L Q) : w.cell? ⟨z.M, 5, none⟩ = some (.int .i64 m.mo) := by obtain ⟨_, _, _, h⟩ := h.mi; exact h.c5
theorem Cx.m6 (h : Cx b (mxR b.y z m) w x L Q) : w.cell? ⟨z.M, 6, none⟩ = some (.int .i64 m.co) := by obtain ⟨_, _, _, h⟩ := h.mi; exact h.c6
theorem Cx.m8 (h : Cx b (mxR b.y z m) w x L Q) : w.cell? ⟨z.M, 8, none⟩ = some (.slice z.pp m.pg.length z.cp) := by obtain ⟨_, _, _, h⟩ := h.mi; exact h.c8
theorem Cx.m11 (h : Cx b (mxR b.y z m) w x L Q) : w.cell? ⟨z.M, 11, none⟩ = some m.nx := by obtain ⟨_, _, _, h⟩ := h.mi; exact h.c11
theorem Cx.m12 (h : Cx b (mxR b.y z m) w x L Q) : w.cell? ⟨z.M, 12, none⟩ = some (.int .i64 m.tk) := by obtain ⟨_, _, _, h⟩ := h.mi; exact h.c12
theorem Cx.me (h : Cx b (mxR b.y z m) w x L Q) {i : Nat} (hi : i < 6) : w.cell? ⟨z.M, 13 + i, none⟩ = some (.int .i64 (m.ev i)) := by obtain ⟨_, _, _, h⟩ := h.mi; exact h.ce i hi
theorem Cx.mf (h : Cx b (mxR b.y z m) w x L Q) (o : Nat) : w.frozen? ⟨z.M, o, none⟩ = false := by obtain ⟨_, _, _, h⟩ := h.mi; exact h.fz o
theorem Cx.mg (h : Cx b (mxR b.y z m) w x L Q) {j : Nat} (hj : j < m.rg.length) : w.cell? ⟨z.G, j, none⟩ = some (.int .i64 (m.rg.getD j 0)) := by obtain ⟨_, _, _, h⟩ := h.mi; exact h.rg j hj
theorem Cx.mgf (h : Cx b (mxR b.y z m) w x L Q) (j : Nat) : w.frozen? ⟨z.G, j, none⟩ = false := by obtain ⟨_, _, _, h⟩ := h.mi; exact h.rf j
theorem Cx.ltM (h : Cx b (mxR b.y z m) w x L Q) : z.M < w.heap.size := lt_of_cell h.m0
/-- Cells of the record turned. -/
theorem Cx.rec (h : Cx b (mxR b.y z m) w x L Q) (hP : b.P (4 + z.id)) {w' : World} {m' : Md} (hc : Chg (fun k => k = z.M) w w') (hcs : ∀ p c, CellsL w z.M (mutA b.y.S (dynM z p c) m) → CellsL w' z.M (mutA b.y.S (dynM z p c) m')) (hf : ∀ o, w'.frozen? ⟨z.M, o, none⟩ = w.frozen? ⟨z.M, o, none⟩)
    (e1 : m'.rg = m.rg) (e2 : m'.room = m.room) (e3 : m'.xs = m.xs) (e4 : m'.pg = m.pg) (e5 : m'.rs = m.rs) : Cx b (mxR b.y z m') w' x L Q := by
  obtain ⟨O, d, ps, cs, h⟩ := h
  obtain ⟨p, c, h2⟩ := h.r
  refine ⟨O, d, ps, cs, h.own (R' := mxR b.y z m') hc (fun k hk => by rw [hk]; exact h2.own _ (.inl rfl)) hP (by omega) (by omega) ⟨p, c, ?_, h2.own, h2.oN, h2.oP⟩⟩
  exact h2.mi.upd hc (hcs p c h2.mi.cells) rfl hf e1 e2 e3 e4 e5
end
end Go.Proofs.YtipifkgmhgkleaaGreatDoor.Mv

namespace Go.Proofs.YtipifkgmhgkleaaGreatDoor.Mv
open Go.RowKit
open Hp (Ids St Is To Mine bnI coE coV fE fN lV lE sE stS ccE cV scE scS puE puS beE beS baE baS asS colB)
open Rf (paE paF paS)
open Lg (BfIs BxIs)
open Blk (perN adr cellsF)
open Mu (Sy Sd ownS ShIs Ml Md ownM MIs lt_of_cell O4)
open Go.Proofs.YtipifkgmhgkleaaGreatDoor.Row (Chg rowB Rd cellsZ)
open Go.Proofs.YtipifkgmhgkleaaGreatDoor.Addr (Tabs)

def puX (s : St) (a : Int) : St := if puE s a = 0 then puS s a.toNat else s
def beX (s : St) (a n : Int) : St := if beE s a n = 0 then beS s a.toNat n.toNat else s
def baX (s : St) (a c : Int) : St := if baE s a c = 0 then baS s a.toNat c else s
def stX (s : St) (a f v : Int) : St := if sE s a f v = 0 then stS s a.toNat f.toNat v.toNat else s
def paX (s : St) (a c : Int) : St := if paE s a c = 0 then paS s a.toNat c else s
def scX (s : St) (i v : Int) : St := if scE s i v = 0 then scS s i v else s
/-- The heap's state and clock. -/
def hp (x : Sd) (s : St) (m : Nat) : Sd := { x with s := s, m := m }
section
variable {b : Ba} {R : Rs} {w : World} {x : Sd} {L : List (Nat × Nat × Value)} {Q : List (K × Value)}
theorem cx_take_good (k a : Nat) (l : List Nat) (hk : k < 4) (he : x.s.hv k = a :: l) (h : Cx b R w x L Q) :
    Calls Tryz.prog 242 #[.pointer (some ⟨b.y.H, 0, none⟩), .int .i64 k] w fun e w' => e = .returned (.tuple #[.int .i64 a, .int .i64 0]) ∧ Cx b R w' (hp x { x.s with hv := Lis.upd x.s.hv k l } x.m) L Q := by
  obtain ⟨O, d, ps, cs, h⟩ := h
  exact (Hp.take_good k a l w h.sx.sh.hp hk he).mono fun e w' hq => ⟨hq.1, h.heap hq.2⟩
theorem cx_take_none (k : Nat) (hk : k < 4) (he : x.s.hv k = []) (h : Cx b R w x L Q) :
    Calls Tryz.prog 242 #[.pointer (some ⟨b.y.H, 0, none⟩), .int .i64 k] w fun e w' => e = .returned (.tuple #[.int .i64 0, .int .i64 12]) ∧ Cx b R w' x L Q := by
  obtain ⟨O, d, ps, cs, h⟩ := h
  exact (Hp.take_none k w h.sx.sh.hp hk he).mono fun e w' hq => ⟨hq.1, h.heap hq.2⟩
theorem cx_put (a : Int) (hm : x.m < 900000) (hz : Tz b.y) (h : Cx b R w x L Q) :
    Calls Tryz.prog 297 #[.pointer (some ⟨b.y.H, 0, none⟩), .int .i64 a] w fun e w' => e = .returned (.int .i64 (puE x.s a)) ∧ Cx b R w' (hp x (puX x.s a) (x.m + 1)) L Q := by
  obtain ⟨O, d, ps, cs, h⟩ := h
  exact (Hp.put_any a w h.sx.sh.hp (h.tabs hz) hm).mono fun e w' hq => ⟨hq.1, h.heap hq.2⟩
theorem cx_begin (a n : Int) (hm : x.m < 900000) (hz : Tz b.y) (h : Cx b R w x L Q) :
    Calls Tryz.prog 286 #[.pointer (some ⟨b.y.H, 0, none⟩), .int .i64 a, .int .i64 n] w fun e w' => e = .returned (.int .i64 (beE x.s a n)) ∧ Cx b R w' (hp x (beX x.s a n) (x.m + 1)) L Q := by
  obtain ⟨O, d, ps, cs, h⟩ := h
  exact (Hp.begin_any a n w h.sx.sh.hp (h.tabs hz) hm).mono fun e w' hq => ⟨hq.1, h.heap hq.2⟩
theorem cx_bear (a c : Int) (hm : x.m < 900000) (hz : Tz b.y) (h : Cx b R w x L Q) :
    Calls Tryz.prog 317 #[.pointer (some ⟨b.y.H, 0, none⟩), .int .i64 a, .int .i64 c] w fun e w' => e = .returned (.int .i64 (baE x.s a c)) ∧ Cx b R w' (hp x (baX x.s a c) (x.m + 1)) L Q := by
  obtain ⟨O, d, ps, cs, h⟩ := h
  exact (Hp.bear_any a c w h.sx.sh.hp (h.tabs hz) hm).mono fun e w' hq => ⟨hq.1, h.heap hq.2⟩
theorem cx_store (a f v : Int) (hm : x.m < 900000) (hz : Tz b.y) (h : Cx b R w x L Q) :
    Calls Tryz.prog 204 #[.pointer (some ⟨b.y.H, 0, none⟩), .int .i64 a, .int .i64 f, .int .i64 v] w fun e w' => e = .returned (.int .i64 (sE x.s a f v)) ∧ Cx b R w' (hp x (stX x.s a f v) (x.m + 2)) L Q := by
  obtain ⟨O, d, ps, cs, h⟩ := h
  exact (Hp.storeF_any a f v w h.sx.sh.hp (h.tabs hz) hm).mono fun e w' hq => ⟨hq.1, h.heap hq.2⟩
theorem cx_load (a f : Int) (hm : x.m < 900000) (hz : Tz b.y) (h : Cx b R w x L Q) :
    Calls Tryz.prog 199 #[.pointer (some ⟨b.y.H, 0, none⟩), .int .i64 a, .int .i64 f] w fun e w' => e = .returned (.tuple #[.int .i64 (lV x.s a f), .int .i64 (lE x.s a f)]) ∧ Cx b R w' (hp x x.s (x.m + 2)) L Q := by
  obtain ⟨O, d, ps, cs, h⟩ := h
  exact (Hp.load_any a f w h.sx.sh.hp (h.tabs hz) hm).mono fun e w' hq => ⟨hq.1, h.heap hq.2⟩
theorem cx_cell (i : Int) (h : Cx b R w x L Q) :
    Calls Tryz.prog 206 #[.pointer (some ⟨b.y.H, 0, none⟩), .int .i64 i] w fun e w' => e = .returned (.tuple #[.int .i64 (cV x.s i), .int .i64 (ccE x.s i)]) ∧ Cx b R w' x L Q := by
  have h0 := h
  obtain ⟨O, d, ps, cs, h⟩ := h
  exact (Hp.cell_any i w h.sx.sh.hp).mono fun e w' hq => ⟨hq.1, h0.later hq.2⟩
theorem cx_config (h : Cx b R w x L Q) :
    Calls Tryz.prog 45 #[.pointer (some ⟨b.y.H, 0, none⟩)] w fun e w' => e = .returned (.agg #[.int .i64 x.s.c.b, .int .i64 x.s.c.wd, .int .i64 x.s.c.m, .int .i64 x.s.c.r, .int .i64 x.s.c.ce, .int .i64 x.s.c.lg, .int .i64 x.s.c.st]) ∧ Below w.heap.size w w' := by
  obtain ⟨O, d, ps, cs, h⟩ := h
  exact Hp.config_any w h.sx.sh.hp
end
end Go.Proofs.YtipifkgmhgkleaaGreatDoor.Mv

namespace Go.Proofs.YtipifkgmhgkleaaGreatDoor.Mv
open Go.RowKit
open Hp (Ids St Is To Mine)
open Lg (BfIs BxIs)
open Brd (BdIs)
open Qu (QuIs)
open Mu (Sy Sd ownS ShIs Ml Md ownM MIs lt_of_cell O4 CellsL mutA OpsR)
open Go.Proofs.YtipifkgmhgkleaaGreatDoor.Row (Chg rowB Rd cellsZ owns_chg)
open Go.Proofs.YtipifkgmhgkleaaGreatDoor.Addr (Tabs)

/-- A register laid. -/
theorem mi_reg {w : World} {y : Sy} {T : Nat → Prop} {z : Ml} {m : Md} (h : MIs w y T z m) {r : Nat} (hr : r < m.rg.length) (v : Int) : MIs (w.setCell ⟨z.G, r, none⟩ (.int .i64 v)) y T z { m with rg := m.rg.set r v } ∧ Chg (fun k => k = z.G) w (w.setCell ⟨z.G, r, none⟩ (.int .i64 v)) := by
  have hc : Chg (fun k => k = z.G) w (w.setCell ⟨z.G, r, none⟩ (.int .i64 v)) := (Chg.refl (fun k => k = z.G) w).set (p := ⟨z.G, r, none⟩) (.inl rfl) _
  have hlN : z.N < w.heap.size := h.tl _ h.tN
  have hNB : z.N ≠ z.G := fun e => h.nN (.inr (.inl e))
  have cM : ∀ o v', w.cell? ⟨z.M, o, none⟩ = some v' → (w.setCell ⟨z.G, r, none⟩ (.int .i64 v)).cell? ⟨z.M, o, none⟩ = some v' := fun o _ hv => (hc.cell (p := ⟨z.M, o, none⟩) h.ltM h.dMG).trans hv
  have cN : ∀ o v', w.cell? ⟨z.N, o, none⟩ = some v' → (w.setCell ⟨z.G, r, none⟩ (.int .i64 v)).cell? ⟨z.N, o, none⟩ = some v' := fun o _ hv => (hc.cell (p := ⟨z.N, o, none⟩) hlN hNB).trans hv
  have el : (m.rg.set r v).length = m.rg.length := List.length_set ..
  refine ⟨⟨cM _ _ h.c0, cM _ _ h.c1, by rw [show ({ m with rg := m.rg.set r v } : Md).rg = m.rg.set r v from rfl, el]; exact cM _ _ h.c2, cM _ _ h.c3, cM _ _ h.c4, cM _ _ h.c5, cM _ _ h.c6, cM _ _ h.c7, cM _ _ h.c8, cM _ _ h.c9, cM _ _ h.c10, cM _ _ h.c11, cM _ _ h.c12, fun i hi => cM _ _ (h.ce i hi), cM _ _ h.c19, cM _ _ h.c20, fun o => (hc.frozen (p := ⟨z.M, o, none⟩) h.ltM h.dMG).trans (h.fz o),
    fun j hj => ?_, fun j => (World.frozen?_setCell ..).trans (h.rf j), Nat.lt_of_lt_of_le h.gl hc.size, h.bf.chg hc (fun k hk => hk ▸ h.hT _ (.inr (.inl rfl))) (fun e => h.dGB e.symm), cN _ _ h.n0, cN _ _ h.n1, cN _ _ h.n2, cN _ _ h.n3,
    h.pg.chg hc (fun g hg e => (h.nP g hg).2 (.inr (.inl e))), h.pc, owns_chg h.rs hc (fun g hg e => (h.dR g hg).2.1 e), h.hT, h.tN, fun k hk => Nat.lt_of_lt_of_le (h.tl k hk) hc.size, h.nN, h.nP, h.dMG, h.dMB, h.dGB, h.dR⟩, hc⟩
  have hj2 : j < m.rg.length := by rw [← el]; exact hj
  show _ = some (Value.int .i64 ((m.rg.set r v).getD j 0))
  by_cases e : r = j
  · subst e
    rw [Row.same (h.rg r hj2)]
    simp [List.getD_eq_getElem?_getD, hr]
  · rw [Row.other (by first | (simp; done) | (simp; omega)), h.rg j hj2]
    simp [List.getD_eq_getElem?_getD, e]
section
variable {b : Ba} {R : Rs} {z : Ml} {m : Md} {w : World} {x : Sd} {L : List (Nat × Nat × Value)} {Q : List (K × Value)}
theorem Cx.reg (h : Cx b (mxR b.y z m) w x L Q) (hP : b.P (4 + z.id)) {r : Nat} (hr : r < m.rg.length) (v : Int) : Cx b (mxR b.y z { m with rg := m.rg.set r v }) (w.setCell ⟨z.G, r, none⟩ (.int .i64 v)) x L Q := by
  obtain ⟨O, d, ps, cs, h⟩ := h
  obtain ⟨p, c, h2⟩ := h.r
  obtain ⟨h3, hc⟩ := mi_reg h2.mi (r := r) hr v
  exact ⟨O, d, ps, cs, h.own (R' := mxR b.y z { m with rg := m.rg.set r v }) hc (fun k hk => by rw [hk]; exact h2.own _ (.inr (.inl rfl))) hP (by omega) (by omega) ⟨p, c, h3, h2.own, h2.oN, h2.oP⟩⟩
theorem Cx.bf (h : Cx b (mxR b.y z m) w x L Q) : ∃ T, BfIs T w z.B m.room m.xs ∧ ∀ k, T k → k < w.heap.size := by
  obtain ⟨p, c, T, h⟩ := h.mi
  exact ⟨T, h.bf, h.tl⟩
end
end Go.Proofs.YtipifkgmhgkleaaGreatDoor.Mv
