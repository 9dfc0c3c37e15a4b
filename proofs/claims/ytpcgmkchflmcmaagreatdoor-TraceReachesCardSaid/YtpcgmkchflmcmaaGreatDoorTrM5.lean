/-
  For the law TraceReaches: the heap beside what Of told.
-/
import Derived.Test.YtpcgmkchflmcmaaGreatDoorTrM4
import Derived.Deep.RegionHeld3
namespace Go.Proofs.YtpcgmkchflmcmaaGreatDoor.Tr
open Go.RowKit Go.Shelf
open Class (below_drewN)
open Blk (Cfg allP kAt little little_any little_right)
open Bits (SetIs TzTab)
open Hp (Ids St Wf Is To Mine bn bnI objL not_mine pkA_len NewRow)
open Go.Proofs.YtpcgmkchflmcmaaGreatDoor.Row (Chg Rd Rd0 rowB rowB_none cell_of_block frozen_of_block other same cellsZ owns_block owns_chg owns_lt owns_base)
open Go.Proofs.YtpcgmkchflmcmaaGreatDoor.Addr (Tabs)

theorem RootsP.wide {S S' : Nat} {W : World} {p : Option Addr} {R : List Int} (h : RootsP S W p R) (hS : S ≤ S') : RootsP S' W p R := fun j hj => by
  obtain ⟨b, off, e, hb, hc⟩ := h j hj
  exact ⟨b, off, e, by omega, hc⟩
/-- What Of told, beside the heap. -/
structure Gm (W : World) (H : Nat) (d : Ids) (s : St) (pA pT : Option Addr) (vs : List Value) : Prop where
  rA : Kr W H d pA (objL s)
  rT : ∀ j v, vs[j]? = some v → ∃ g off, pT = some ⟨g, off, none⟩ ∧ W.cell? ⟨g, off + j, none⟩ = some v ∧ ¬ Mine H d g
  vs : Vs W (fun g => ¬ Mine H d g) s (objL s).length vs
/-- A block that isn't the heap's. -/
structure Bx (W : World) (H : Nat) (d : Ids) (b o : Nat) (v : Value) : Prop where
  c : W.cell? ⟨b, o, none⟩ = some v
  n : ¬ Mine H d b
structure Rv (wb W : World) (H : Nat) (d : Ids) (s : St) (m b7 b8 : Nat) (pA pT : Option Addr) (cA cT : Nat) (vs : List Value) : Prop where
  lv : Lv wb W H d s m
  gm : Gm W H d s pA pT vs
  h7 : Bx W H d b7 0 (.pointer (some ⟨H, 0, none⟩))
  a0 : Bx W H d b8 0 (.slice pA (objL s).length cA)
  a1 : Bx W H d b8 1 (.slice pT (objL s).length cT)
section
variable {wb W W' : World} {H : Nat} {d d' : Ids} {s : St} {m m' b b7 b8 o : Nat} {pA pT : Option Addr} {cA cT : Nat} {vs : List Value} {v : Value}
theorem Bx.tn (h : Bx W H d b o v) (k : Tn W H d W' d' s m') : Bx W' H d' b o v :=
  have hl := World.block_lt_of_cell? W _ h.c
  ⟨(k.chg.cell (p := ⟨b, o, none⟩) hl h.n).trans h.c, fun e => (k.grow b e).elim h.n (fun e => by simp only at hl; omega)⟩
theorem Bx.later (h : Bx W H d b o v) (hb : Below W.heap.size W W') : Bx W' H d b o v := ⟨(hb.cell (p := ⟨b, o, none⟩) (World.block_lt_of_cell? W _ h.c)).trans h.c, h.n⟩
theorem Gm.tn (h : Gm W H d s pA pT vs) (k : Tn W H d W' d' s m') : Gm W' H d' s pA pT vs :=
  ⟨h.rA.tn k, fun j v hv => by
    obtain ⟨g, off, e, hc, hn⟩ := h.rT j v hv
    have hl := World.block_lt_of_cell? W _ hc
    exact ⟨g, off, e, (k.chg.cell (p := ⟨g, off + j, none⟩) hl hn).trans hc, fun e2 => (k.grow g e2).elim hn (fun e => by simp only at hl; omega)⟩, h.vs.turn (fun g hs hl => ⟨k.chg.block g hl hs, fun e => (k.grow g e).elim hs (fun e => by omega)⟩)⟩
theorem Gm.later (h : Gm W H d s pA pT vs) (hb : Below W.heap.size W W') : Gm W' H d s pA pT vs :=
  ⟨h.rA.later hb, fun j v hv => by
    obtain ⟨g, off, e, hc, hn⟩ := h.rT j v hv
    exact ⟨g, off, e, (hb.cell (p := ⟨g, off + j, none⟩) (World.block_lt_of_cell? W _ hc)).trans hc, hn⟩, h.vs.turn (fun g hs hl => ⟨hb.block g hl, hs⟩)⟩
theorem Gm.gr (h : Gm W H d s pA pT vs) : Gr W s pA pT vs :=
  ⟨h.rA.rd, fun j v hv => by
    obtain ⟨g, off, e, hc, _⟩ := h.rT j v hv
    exact ⟨g, off, e, hc⟩, h.vs.turn (fun g _ _ => ⟨rfl, trivial⟩)⟩
theorem Rv.tn (h : Rv wb W H d s m b7 b8 pA pT cA cT vs) (k : Tn W H d W' d' s m') : Rv wb W' H d' s m' b7 b8 pA pT cA cT vs := ⟨h.lv.tn k, h.gm.tn k, h.h7.tn k, h.a0.tn k, h.a1.tn k⟩
theorem Rv.later (h : Rv wb W H d s m b7 b8 pA pT cA cT vs) (hb : Below W.heap.size W W') : Rv wb W' H d s m b7 b8 pA pT cA cT vs := ⟨h.lv.later hb, h.gm.later hb, h.h7.later hb, h.a0.later hb, h.a1.later hb⟩
/-- What a region loads. -/
def Sx (H b7 b8 : Nat) (s : St) (pA pT : Option Addr) (cA cT : Nat) (W : World) : Prop := W.cell? ⟨b7, 0, none⟩ = some (.pointer (some ⟨H, 0, none⟩)) ∧ W.cell? ⟨b8, 0, none⟩ = some (.slice pA (objL s).length cA) ∧ W.cell? ⟨b8, 1, none⟩ = some (.slice pT (objL s).length cT)
theorem Rv.sx (h : Rv wb W H d s m b7 b8 pA pT cA cT vs) : Sx H b7 b8 s pA pT cA cT W := ⟨h.h7.c, h.a0.c, h.a1.c⟩
/-- A row that is told, what lay beside it. -/
def RowR (wb : World) (H : Nat) (s : St) (b7 b8 : Nat) (pA pT : Option Addr) (cA cT : Nat) (vs : List Value) (mm : Nat) (W : World) (d : Ids) (l : List Int) (e : Ending) (W' : World) : Prop :=
  ∃ p c d', e = .returned (.slice p l.length c) ∧ Kr W' H d' p l ∧ Rv wb W' H d' s mm b7 b8 pA pT cA cT vs ∧ (∀ p2 l2, Kr W H d p2 l2 → Kr W' H d' p2 l2) ∧ Sx H b7 b8 s pA pT cA cT W'
theorem Rv.row {l : List Int} {e : Ending} (h : Rv wb W H d s m b7 b8 pA pT cA cT vs) (hr : RowT W H d s m' l e W') : RowR wb H s b7 b8 pA pT cA cT vs m' W d l e W' := by
  obtain ⟨p, c, d', rfl, hrd, hT, hg⟩ := hr
  have h2 := h.tn hT
  exact ⟨p, c, d', rfl, Kr.of_row hrd hg, h2, fun p2 l2 hk => hk.tn hT, h2.sx⟩
theorem Rv.new {l : List Int} {e : Ending} (h : Rv wb W H d s m b7 b8 pA pT cA cT vs) (hr : NewRow W l e W') : RowR wb H s b7 b8 pA pT cA cT vs m W d l e W' := by
  obtain ⟨p, c, rfl, ho, hb⟩ := hr
  have h2 := h.later hb
  exact ⟨p, c, d, rfl, ⟨Rd.of_owns ho, fun g hg _ e => by have := h.lv.is.lt e; have := (owns_lt ho hg).1; omega⟩, h2, fun p2 l2 hk => hk.later hb, h2.sx⟩
end
/-- The calls, wherever. -/
structure Cs (wb : World) (H : Nat) (s : St) (b7 b8 : Nat) (pA pT : Option Addr) (cA cT : Nat) (vs : List Value) (R : List Int) (pr : Option Addr) (cr : Nat) : Prop where
  reach : ∀ W d m, m ≤ 300000 → Rv wb W H d s m b7 b8 pA pT cA cT vs → Calls Tryz.prog 13 #[.pointer (some ⟨H, 0, none⟩), .slice pr R.length cr] W (RowR wb H s b7 b8 pA pT cA cT vs (m + 40 * (objL s).length) W d (rcL s R))
  garb : ∀ W d m, m ≤ 300000 → Rv wb W H d s m b7 b8 pA pT cA cT vs → Calls Tryz.prog 15 #[.pointer (some ⟨H, 0, none⟩), .slice pr R.length cr] W (RowR wb H s b7 b8 pA pT cA cT vs (m + 40 * (objL s).length) W d (gbL s R))
  ref : ∀ W d m, Rv wb W H d s m b7 b8 pA pT cA cT vs → Calls Tryz.prog 14 #[.agg #[.slice pA (objL s).length cA, .slice pT (objL s).length cT], .slice pr R.length cr] W (RowR wb H s b7 b8 pA pT cA cT vs m W d (rcL s R))
  but : ∀ W d m, Rv wb W H d s m b7 b8 pA pT cA cT vs → Calls Tryz.prog 16 #[.agg #[.slice pA (objL s).length cA, .slice pT (objL s).length cT], .slice pr R.length cr] W (RowR wb H s b7 b8 pA pT cA cT vs m W d (gbL s R))
theorem Cs.all {wb : World} {H : Nat} {s : St} {b7 b8 : Nat} {pA pT : Option Addr} {cA cT : Nat} {vs : List Value} {R : List Int} {pr : Option Addr} {cr : Nat} (ht : Tabs wb) (hz : TzTab wb) (hvb : vB ≤ wb.heap.size) (hr : RootsP wb.heap.size wb pr R) (hR : R.length ≤ 1000) (hN : (objL s).length ≤ 1000) : Cs wb H s b7 b8 pA pT cA cT vs R pr cr := by
  have hml : R.length ≤ maxLen := by unfold maxLen; omega
  have hrb : ∀ W d m, Rv wb W H d s m b7 b8 pA pT cA cT vs → ∀ g, rowB pr g → 0 < R.length → g < W.heap.size := fun W d m h g hg h0 => by
    obtain ⟨b, off, e, hb, _⟩ := hr 0 h0
    rw [e] at hg
    obtain rfl : b = g := by simpa [rowB] using hg
    exact Nat.lt_of_lt_of_le hb h.lv.bel.size
  have hws : ∀ W d m, Rv wb W H d s m b7 b8 pA pT cA cT vs → s.ws.length ≤ 1048576 := fun W d m h => (Rf.words_wrap h.lv.is.wf).1
  exact ⟨fun W d m hm h => (reach_any pr cr R W (hr.ask h.lv ht hz hvb (by omega) hml)).mono fun e W' h2 => h.row h2,
    fun W d m hm h => (garbage_any pr cr R W (hr.ask h.lv ht hz hvb (by omega) hml)).mono fun e W' h2 => h.row h2,
    fun W d m h => (refReach_any W h.gm.gr (hr.below h.lv.bel).rd (hrb W d m h) h.lv.is.wf h.lv.is.tb.kLt hN hR (hws W d m h)).mono fun e W' h2 => h.new h2,
    fun W d m h => (refBut_any W h.gm.gr (hr.below h.lv.bel).rd (hrb W d m h) h.lv.is.wf h.lv.is.tb.kLt hN hR (hws W d m h)).mono fun e W' h2 => h.new h2⟩
end Go.Proofs.YtpcgmkchflmcmaaGreatDoor.Tr
