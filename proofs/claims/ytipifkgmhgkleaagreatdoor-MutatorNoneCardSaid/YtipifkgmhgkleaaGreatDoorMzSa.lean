/-
  Texts one behind the other: SwA Pnt SwB SwC SwD (theorems that nobody names are left out).
-/
import Derived.Test.YtipifkgmhgkleaaGreatDoorMzHq5
import Derived.Test.YtipifkgmhgkleaaGreatDoorMzHq4
import Derived.WalkMore
import Derived.Deep.RegionHeld3
import Derived.BigQuiet
import Derived.Deep.QuietTactic
namespace Go.Proofs.YtipifkgmhgkleaaGreatDoor.Sw
open Go.RowKit
open Blk (Cfg)
open Hp (Ids St Wf Is To Mine bnI bn coE coV frE frS colB)
open Go.Proofs.YtipifkgmhgkleaaGreatDoor.Row (Chg Rd cell_of_block frozen_of_block other same rowB)
open Go.Proofs.YtipifkgmhgkleaaGreatDoor.Addr (Tabs)

/-- A cursor in memory. -/
structure CuIs (w : World) (C H : Nat) (b col : Int) (p : Option Addr) (cap : Nat) (L : List Int) : Prop where
  c0 : w.cell? ⟨C, 0, none⟩ = some (.pointer (some ⟨H, 0, none⟩))
  c1 : w.cell? ⟨C, 1, none⟩ = some (.int .i64 b)
  c2 : w.cell? ⟨C, 2, none⟩ = some (.int .i64 col)
  c3 : w.cell? ⟨C, 3, none⟩ = some (.slice p L.length cap)
  f3 : w.frozen? ⟨C, 3, none⟩ = false
  rd : Rd w p L
  le : L.length ≤ cap
  ne : ¬ rowB p C
  lt : ∀ g, rowB p g → g < w.heap.size
section
variable {w w' : World} {C H : Nat} {b col : Int} {p : Option Addr} {cap : Nat} {L : List Int}
theorem CuIs.ltC (h : CuIs w C H b col p cap L) : C < w.heap.size := World.block_lt_of_cell? w _ h.c0
theorem CuIs.kept (h : CuIs w C H b col p cap L) (hC : w'.heap[C]? = w.heap[C]?) (hg : ∀ g, rowB p g → w'.heap[g]? = w.heap[g]?) (hs : w.heap.size ≤ w'.heap.size) : CuIs w' C H b col p cap L :=
  ⟨(cell_of_block (a := ⟨C, 0, none⟩) hC).trans h.c0, (cell_of_block (a := ⟨C, 1, none⟩) hC).trans h.c1, (cell_of_block (a := ⟨C, 2, none⟩) hC).trans h.c2, (cell_of_block (a := ⟨C, 3, none⟩) hC).trans h.c3,
    (frozen_of_block (a := ⟨C, 3, none⟩) hC).trans h.f3, h.rd.kept (fun g hg' _ => hg g hg'), h.le, h.ne, fun g hg' => Nat.lt_of_lt_of_le (h.lt g hg') hs⟩
theorem CuIs.chg {S : Nat → Prop} (h : CuIs w C H b col p cap L) (hc : Chg S w w') (hC : ¬ S C) (hS : ∀ g, rowB p g → ¬ S g) : CuIs w' C H b col p cap L :=
  h.kept (hc.block C h.ltC hC) (fun g hg => hc.block g (h.lt g hg) (hS g hg)) hc.size
theorem CuIs.later (h : CuIs w C H b col p cap L) (hb : Below w.heap.size w w') : CuIs w' C H b col p cap L := h.kept (hb.block _ h.ltC) (fun g hg => hb.block g (h.lt g hg)) hb.size
theorem CuIs.drewN (h : CuIs w C H b col p cap L) (n : Nat) : CuIs (w.drewN n) C H b col p cap L := h.kept rfl (fun _ _ => rfl) (Nat.le_refl _)
/-- Without its first slot. -/
theorem CuIs.next {g off : Nat} {a : Int} {t : List Int} (h : CuIs w C H b col (some ⟨g, off, none⟩) cap (a :: t)) : CuIs (w.setCell ⟨C, 3, none⟩ (.slice (some ⟨g, off + 1, none⟩) t.length (cap - 1))) C H b col (some ⟨g, off + 1, none⟩) (cap - 1) t := by
  have hgC : g ≠ C := fun e => h.ne (by rw [← e]; rfl)
  have hle := h.le
  rw [List.length_cons] at hle
  refine ⟨(other (by simp)).trans h.c0, (other (by simp)).trans h.c1, (other (by simp)).trans h.c2, same h.c3, (World.frozen?_setCell ..).trans h.f3, ?_, by omega, fun e => h.ne (by cases e; rfl), fun k e => by rw [Row.size_setCell]; exact h.lt k (by cases e; rfl)⟩
  have hr := h.rd.kept (w' := w.setCell ⟨C, 3, none⟩ (.slice (some ⟨g, off + 1, none⟩) t.length (cap - 1))) (fun k hk _ => Below.heap_setCell _ _ _ _ (fun e => h.ne (by rw [← (show k = C from e)]; exact hk)))
  rcases hr with ⟨e, _⟩ | ⟨g', off', e, hcell⟩
  · cases e
  · cases e
    refine .inr ⟨g, off + 1, rfl, fun j hj => ?_⟩
    have := hcell (j + 1) (by rw [List.length_cons]; omega)
    rw [List.getD_cons_succ] at this
    rw [← this, show off + 1 + j = off + (j + 1) by omega]
theorem CuIs.last {g off : Nat} {a : Int} (h : CuIs w C H b col (some ⟨g, off, none⟩) cap [a]) : CuIs (w.setCell ⟨C, 3, none⟩ (.slice (some ⟨g, off, none⟩) 0 0)) C H b col (some ⟨g, off, none⟩) 0 [] :=
  ⟨(other (by simp)).trans h.c0, (other (by simp)).trans h.c1, (other (by simp)).trans h.c2, same h.c3, (World.frozen?_setCell ..).trans h.f3, .inr ⟨g, off, rfl, fun j hj => by simp at hj⟩, Nat.le_refl _, h.ne, fun k e => by rw [Row.size_setCell]; exact h.lt k e⟩
end

theorem col_any (c : Int) (w : World) : Calls Tryz.prog 288 #[.int .i64 c] w fun e w' => e = .returned (.bool (colB c)) ∧ w = w' := by
  by_cases h0 : c = 0
  · subst h0
    go_enter Tryz.func288, Tryz.ntmps288
    go_wp2
    go_ret
    exact ⟨rfl, rfl⟩
  · have b0 : (c == 0) = false := by rw [beq_eq_false_iff_ne]; exact h0
    by_cases h1 : c = 1
    · subst h1
      go_enter Tryz.func288, Tryz.ntmps288
      go_wp2
      go_ret
      exact ⟨rfl, rfl⟩
    · have b1 : (c == 1) = false := by rw [beq_eq_false_iff_ne]; exact h1
      have e : colB c = false := by simp [colB, b0, b1]
      rw [e]
      go_enter Tryz.func288, Tryz.ntmps288
      go_wp2
      go_ret
      exact ⟨rfl, rfl⟩
section
variable {C H : Nat} {b col : Int} {p : Option Addr} {cap : Nat} {L : List Int}
end
end Go.Proofs.YtipifkgmhgkleaaGreatDoor.Sw

namespace Go.Proofs.YtipifkgmhgkleaaGreatDoor.Rf
open Go.RowKit Go.Shelf
open Class (below_drewN)
open Hp (St Wf Is To Mine bn bnI bnI_nat frI colB seven isO_any ones_put not_mine three_new)
open Go.Proofs.YtipifkgmhgkleaaGreatDoor.Row (Chg)
open Go.Proofs.YtipifkgmhgkleaaGreatDoor.Addr (Tabs)

open Lis (upd)
def paS (s : St) (a : Nat) (c : Int) : St := { s with os := Bits.putS (s.ws.length + 1) s.os a (c == 1) }
def paE (s : St) (a c : Int) : Int := if bnI s a = true then (if colB c = true then 0 else 1) else 1
def paF (s : St) (a c : Int) : Bool := if paE s a c = 0 then (hasB s.os a.toNat != (c == 1)) else false
section
variable {H : Nat} {d : Hp.Ids} {s : St} {m : Nat}
end
end Go.Proofs.YtipifkgmhgkleaaGreatDoor.Rf

namespace Go.Proofs.YtipifkgmhgkleaaGreatDoor.Sw
open Go.RowKit
open Blk (Cfg)
open Hp (Ids St Wf Is To Mine bnI bn coE coV frE frS colB)
open Go.Proofs.YtipifkgmhgkleaaGreatDoor.Row (Chg Rd cell_of_block frozen_of_block other same rowB)
open Go.Proofs.YtipifkgmhgkleaaGreatDoor.Addr (Tabs)

/-- Is a slot's turn its end? What is there then; what is told. -/
def swB (s : St) (col a : Int) : Bool := bnI s a && !(coV s a == col)
def swT (s : St) (col a : Int) : St := if swB s col a = true then frS s a.toNat else s
def swV (s : St) (col a : Int) : Int := if swB s col a = true then a else 0

/-- A heap and a cursor on it, since w1. -/
structure Hc (w1 : World) (H : Nat) (d0 : Ids) (C : Nat) (w : World) (d : Ids) (s : St) (m : Nat) (b col : Int) (p : Option Addr) (cap : Nat) (L : List Int) : Prop where
  is : Is w H d s m
  tb : Tabs w
  cu : CuIs w C H b col p cap L
  nC : ¬ Mine H d C
  nR : ∀ g, rowB p g → ¬ Mine H d g
  hi : 2 < C ∧ 9 < C
  chg : Chg (fun k => Mine H d0 k ∨ k = C) w1 w
  inD : ∀ k, Mine H d k → Mine H d0 k ∨ w1.heap.size ≤ k
section
variable {w1 w w' : World} {H C m m' : Nat} {d0 d : Ids} {s s' : St} {b col : Int} {p : Option Addr} {cap : Nat} {L : List Int}
theorem Hc.heap (h : Hc w1 H d0 C w d s m b col p cap L) (hT : To w w' H d s' m') : ∃ d', Hc w1 H d0 C w' d' s' m' b col p cap L := by
  obtain ⟨d', g1, g2, g3⟩ := hT
  have hs := h.chg.size
  exact ⟨d', g1, h.is.tabs g2 h.tb, h.cu.chg g2 h.nC h.nR, fun e => (g3 C e).elim h.nC (fun x => by have := h.cu.ltC; omega), fun g hg e => (g3 g e).elim (h.nR g hg) (fun x => by have := h.cu.lt g hg; omega), h.hi,
    h.chg.trans g2 (fun q e => (h.inD q e).imp .inl id), fun k e => (g3 k e).elim (h.inD k) (fun x => .inr (by omega))⟩
theorem Hc.later (h : Hc w1 H d0 C w d s m b col p cap L) (hb : Below w.heap.size w w') : Hc w1 H d0 C w' d s m b col p cap L :=
  ⟨h.is.later hb, h.tb.later hb, h.cu.later hb, h.nC, h.nR, h.hi, h.chg.trans (Chg.of_below (S := fun k => Mine H d0 k ∨ k = C) hb) (fun _ e => .inl e), h.inD⟩
theorem Hc.turn (h : Hc w1 H d0 C w d s m b col p cap L) {v : Value} {p' : Option Addr} {cap' : Nat} {L' : List Int} (hcu : CuIs (w.setCell ⟨C, 3, none⟩ v) C H b col p' cap' L') (hp : ∀ g, rowB p' g → rowB p g) : Hc w1 H d0 C (w.setCell ⟨C, 3, none⟩ v) d s m b col p' cap' L' := by
  have hC : Chg (fun k => k = C) w (w.setCell ⟨C, 3, none⟩ v) := Chg.set (S := fun k => k = C) (Chg.refl _ w) (.inl rfl) _
  have hl := h.cu.ltC
  have hb : Below (max 2 9 + 1) w (w.setCell ⟨C, 3, none⟩ v) := hC.below (fun k hk => by have := h.hi; omega) (by have := h.hi; omega)
  exact ⟨h.is.chg hC (fun k e e2 => h.nC (e2 ▸ e)), h.tb.below hb (by omega) (by omega), hcu, h.nC, fun g hg => h.nR g (hp g hg), h.hi, h.chg.trans hC (fun q e => .inl (.inr e)), h.inD⟩

end
end Go.Proofs.YtipifkgmhgkleaaGreatDoor.Sw

namespace Go.Proofs.YtipifkgmhgkleaaGreatDoor.Sw
open Go.RowKit
open Blk (Cfg)
open Hp (Ids St Wf Is To Mine bnI bn coE coV frE frS colB holdsF)
open Go.Proofs.YtipifkgmhgkleaaGreatDoor.Row (Chg Rd cell_of_block frozen_of_block other same rowB cellsZ cellsZ_snoc owns_lt owns_chg owns_slice owns_base push_row info_parts infoInt one_at)
open Go.Proofs.YtipifkgmhgkleaaGreatDoor.Addr (Tabs)

/-- What is there behind all turns; what they free. -/
def swS (s : St) (col : Int) : List Int → St
  | [] => s
  | a :: l => swS (swT s col a) col l
def swF (s : St) (col : Int) : List Int → List Int
  | [] => []
  | a :: l => (if swB s col a = true then [a] else []) ++ swF (swT s col a) col l

section
variable {w1 w w' : World} {H C m m' : Nat} {d0 d d' : Ids} {s s' : St} {b col : Int} {p p' : Option Addr} {cap cap' : Nat} {L L' : List Int}
theorem Hc.trans (h : Hc w1 H d0 C w d s m b col p cap L) (h2 : Hc w H d C w' d' s' m' b col p' cap' L') : Hc w1 H d0 C w' d' s' m' b col p' cap' L' :=
  ⟨h2.is, h2.tb, h2.cu, h2.nC, h2.nR, h2.hi, h.chg.trans h2.chg (fun q e => e.elim (fun e => (h.inD q e).imp .inl id) (fun e => .inl (.inr e))), fun k e => (h2.inD k e).elim (h.inD k) (fun x => .inr (by have := h.chg.size; omega))⟩
theorem Hc.blocks {S : Nat → Prop} (h : Hc w1 H d0 C w d s m b col p cap L) (hc : Chg S w w') (hS : ∀ g, S g → ¬ Mine H d g ∧ g ≠ C ∧ ¬ rowB p g ∧ w1.heap.size ≤ g) (hC : C < w1.heap.size) : Hc w1 H d0 C w' d s m b col p cap L :=
  have hs := h.chg.size
  have hb : Below (max 2 9 + 1) w w' := hc.below (fun k hk => by have := h.hi; have := (hS k hk).2.2.2; omega) (by have := h.hi; omega)
  ⟨h.is.chg hc (fun k e e2 => (hS k e2).1 e), h.tb.below hb (by omega) (by omega), h.cu.chg hc (fun e => (hS C e).2.1 rfl) (fun g hg e => (hS g e).2.2.1 hg), h.nC, h.nR, h.hi, h.chg.trans hc (fun q e => .inr (hS q e).2.2.2), h.inD⟩

/-- A heap, a cursor on it, and the row of what was freed. -/
structure Ou (w1 : World) (H : Nat) (d0 : Ids) (C : Nat) (w : World) (d : Ids) (s : St) (m : Nat) (b col : Int) (p : Option Addr) (cap : Nat) (L fo : List Int) (po : Option Addr) (co : Nat) : Prop where
  hc : Hc w1 H d0 C w d s m b col p cap L
  own : w.ownsRow w1.heap.size 3 1 (.slice po fo.length co) fo.length (cellsZ fo)
  av : ∀ g, rowB po g → ¬ Mine H d g ∧ g ≠ C ∧ ¬ rowB p g
variable {fo : List Int} {po : Option Addr} {co : Nat}
theorem Ou.step (h : Ou w1 H d0 C w d s m b col p cap L fo po co) (h2 : Hc w H d C w' d' s' m' b col p' cap' L') (hp : ∀ g, rowB p' g → rowB p g) : Ou w1 H d0 C w' d' s' m' b col p' cap' L' fo po co :=
  ⟨h.hc.trans h2, owns_chg h.own h2.chg (fun g hg e => e.elim (h.av g hg).1 (h.av g hg).2.1), fun g hg => ⟨fun e => (h2.inD g e).elim (h.av g hg).1 (fun x => by have := (owns_lt h.own hg).2; omega), (h.av g hg).2.1, fun e => (h.av g hg).2.2 (hp g e)⟩⟩
theorem Ou.push {a : Int} {po' : Option Addr} {co' : Nat} (h : Ou w1 H d0 C w d s m b col p cap L fo po co) (hC : C < w1.heap.size) (hc : Chg (rowB po) w w') (ho : w'.ownsRow w1.heap.size 3 1 (.slice po' (fo ++ [a]).length co') (fo ++ [a]).length (cellsZ (fo ++ [a]))) (hR : ∀ g, rowB po' g → rowB po g ∨ w.heap.size ≤ g) :
    Ou w1 H d0 C w' d s m b col p cap L (fo ++ [a]) po' co' :=
  ⟨h.hc.blocks hc (fun g hg => ⟨(h.av g hg).1, (h.av g hg).2.1, (h.av g hg).2.2, (owns_lt h.own hg).1⟩) hC, ho, fun g hg => (hR g hg).elim (h.av g) (fun x => ⟨fun e => by have := h.hc.is.lt e; omega, fun e => by have := h.hc.cu.ltC; omega, fun e => by have := h.hc.cu.lt g e; omega⟩)⟩

/-- How many slots a cursor has left. -/
def lenAt (w : World) (C : Nat) : Nat := match w.cell? ⟨C, 3, none⟩ with | some (.slice _ n _) => n | _ => 0
theorem CuIs.len (h : CuIs w C H b col p cap L) : lenAt w C = L.length := by unfold lenAt; rw [h.c3]

end
end Go.Proofs.YtipifkgmhgkleaaGreatDoor.Sw

namespace Go.Proofs.YtipifkgmhgkleaaGreatDoor.Sw
open Go.RowKit
open Blk (Cfg TbIs kAt seg seg_length perN)
open Hp (Ids St Wf Is To Mine bnI bn coE coV frE frS colB holdsF)
open Go.Proofs.YtipifkgmhgkleaaGreatDoor.Row (Chg Rd cell_of_block frozen_of_block other same rowB cellsZ cellsZ_snoc owns_lt owns_chg owns_slice owns_base owns_cap push_row info_parts infoInt one_at)
open Go.Proofs.YtipifkgmhgkleaaGreatDoor.Addr (Tabs)

section
variable {H m : Nat} {d : Ids} {s : St}
theorem new_good (b : Nat) (c : Int) (w : World) (h : Is w H d s m) (ht : Tabs w) (hb : b < s.ks.length) (hc : colB c = true) : Calls Tryz.prog 246 #[.pointer (some ⟨H, 0, none⟩), .int .i64 b, .int .i64 c] w fun e w' =>
    ∃ C p cap, e = .returned (.tuple #[.pointer (some ⟨C, 0, none⟩), .int .i64 0]) ∧ Hc w' H d C w' d s m b c p cap (seg s.c s.ks b) ∧ Below w.heap.size w w' ∧ w.heap.size ≤ C ∧ ∀ g, rowB p g → w.heap.size ≤ g := by
  have hR := h.wf.right
  have hfull := h.wf.full
  have hN1 : 1 ≤ perN s.c (kAt s.ks b) := Blk.perN_pos hR (h.tb.kLt b)
  have HT := Lib.hid (Hp.table_any w h)
  have HSL := Lib.hid (show ∀ (W1 : World) (B : Nat) (pt : Option Addr) (ct : Nat), TbIs W1 B w.heap.size s.c s.ks pt ct → Below w.heap.size w W1 → Calls Tryz.prog 290 #[.pointer (some ⟨B, 0, none⟩), .int .i64 (b : Int)] W1 fun e w' => ∃ p' cap', e = .returned (.slice p' (seg s.c s.ks b).length cap') ∧ w'.ownsRow W1.heap.size 3 1 (.slice p' (seg s.c s.ks b).length cap') (seg s.c s.ks b).length (cellsZ (seg s.c s.ks b)) ∧ Below W1.heap.size W1 w' from fun W1 B pt ct htb hb1 => by
    refine (Blk.slots_in (b := b) (N := perN s.c (kAt s.ks b)) W1 htb hR hb (by omega) (Blk.perN_eq s.c (kAt s.ks b)) hN1 (ht.later hb1)).mono ?_
    rintro e w' ⟨p', cap', rfl, ho, hb⟩
    rw [← Hp.cellsZ_seg, ← seg_length] at ho
    rw [← seg_length]
    exact ⟨p', cap', rfl, ho, hb⟩)
  have hn0 : (0 : Int) < (seg s.c s.ks b).length := by rw [seg_length]; omega
  have hn1 : (((seg s.c s.ks b).length : Int) == 0) = false := by rw [beq_eq_false_iff_ne]; omega
  have HH := Lib.hid h
  have HTB := Lib.hid ht
  clear h ht hR hN1
  go_enter Tryz.func246, Tryz.ntmps246
  go_wp2_with (first
    | (go_at_call 288; refine (col_any _ _).mono ?_; rw [hc]; rintro e w' ⟨rfl, rfl⟩)
    | (go_at_call 289; refine HT.out.mono ?_; rintro e w1 ⟨B, pt, ct, rfl, htb, hb1⟩; have HT1 := Lib.hid htb; have HB1 := Lib.hid hb1; clear htb hb1)
    | (go_at_call 290; refine (HSL.out w1 B pt ct HT1.out HB1.out).mono ?_; rintro e w2 ⟨p2, c2, rfl, ho2, hb2⟩; have HB2 := Lib.hid hb2; have HO2 := Lib.hid ho2; clear hb2 ho2))
  go_ret2
  have hb2 : Below w.heap.size w w2 := HB1.out.trans (HB2.out.mono HB1.out.size)
  have hI := HH.out.later hb2
  have hal := (Below.refl w2.heap.size w2).alloc (Nat.le_refl _) (.cells #[.pointer (some ⟨H, 0, none⟩), .int .i64 b, .int .i64 c, .slice p2 (seg s.c s.ks b).length c2] 355)
  have hr := Rd.of_owns HO2.out
  refine ⟨w2.heap.size, p2, c2, rfl, ⟨hI.later hal, (HTB.out.later hb2).later hal, ⟨by simp, by simp, by simp, by simp, by simp, hr.later hal, (owns_cap HO2.out).1, fun e => by have := (owns_lt HO2.out e).2; omega, fun g hg => by have := (owns_lt HO2.out hg).2; simp; omega⟩, fun e => by have := hI.lt e; omega, fun g hg e => ?_, ?_, Chg.refl _ _, fun _ e => .inl e⟩, hb2.alloc hb2.size _, hb2.size, fun g hg => ?_⟩
  · have := (owns_lt HO2.out hg).1
    have := HH.out.lt e
    have := HB1.out.size
    omega
  · have := hI.hi H (.inr (.inl (.inl rfl)))
    have := hI.ltH
    omega
  · have := (owns_lt HO2.out hg).1
    have := HB1.out.size
    omega
end
end Go.Proofs.YtipifkgmhgkleaaGreatDoor.Sw
