/-
  Texts of layer 15, as far as layer 16 wants them.
-/
import Derived.Test.YtkfgchhlekdpgaaGreatDoorHq5
import Derived.Test.YtkfgchhlekdpgaaGreatDoorHq4
import Derived.WalkMore
import Derived.Test.YtkfgchhlekdpgaaGreatDoorRq4
import Derived.Test.YtkfgchhlekdpgaaGreatDoorRq3
import Derived.BigQuiet
import Derived.Deep.QuietTactic
import Derived.Test.YtkfgchhlekdpgaaGreatDoorRfW
import Derived.Deep.RegionHeld3
import Derived.Test.YtkfgchhlekdpgaaGreatDoorRfZ
namespace Go.Proofs.YtkfgchhlekdpgaaGreatDoor.Sw
open Go.RowKit
open Blk (Cfg)
open Hp (Ids St Wf Is To Mine bnI bn coE coV frE frS colB)
open Go.Proofs.YtkfgchhlekdpgaaGreatDoor.Row (Chg Rd cell_of_block frozen_of_block other same rowB)
open Go.Proofs.YtkfgchhlekdpgaaGreatDoor.Addr (Tabs)

/-- A cursor in memory. -/
structure CuIs (w : World) (C H : Nat) (b col : Int) (p : Option Addr) (cap : Nat) (L : List Int) : Prop where
  c0 : w.cell? ⟨C, 0, none⟩ = some (.pointer (some ⟨H, 0, none⟩))
  c1 : w.cell? ⟨C, 1, none⟩ = some (.int .i64 b)
  c2 : w.cell? ⟨C, 2, none⟩ = some (.int .i64 col)
  c3 : w.cell? ⟨C, 3, none⟩ = some (.slice p L.length cap)
  f3 : w.frozen? ⟨C, 3, none⟩ = false
  rd : Rd w p L
  le : L.length ≤ cap
  ne : ¬ rowB p C
  lt : ∀ g, rowB p g → g < w.heap.size
section
variable {w w' : World} {C H : Nat} {b col : Int} {p : Option Addr} {cap : Nat} {L : List Int}
theorem CuIs.ltC (h : CuIs w C H b col p cap L) : C < w.heap.size := World.block_lt_of_cell? w _ h.c0
theorem CuIs.kept (h : CuIs w C H b col p cap L) (hC : w'.heap[C]? = w.heap[C]?) (hg : ∀ g, rowB p g → w'.heap[g]? = w.heap[g]?) (hs : w.heap.size ≤ w'.heap.size) : CuIs w' C H b col p cap L :=
  ⟨(cell_of_block (a := ⟨C, 0, none⟩) hC).trans h.c0, (cell_of_block (a := ⟨C, 1, none⟩) hC).trans h.c1, (cell_of_block (a := ⟨C, 2, none⟩) hC).trans h.c2, (cell_of_block (a := ⟨C, 3, none⟩) hC).trans h.c3,
    (frozen_of_block (a := ⟨C, 3, none⟩) hC).trans h.f3, h.rd.kept (fun g hg' _ => hg g hg'), h.le, h.ne, fun g hg' => Nat.lt_of_lt_of_le (h.lt g hg') hs⟩
theorem CuIs.chg {S : Nat → Prop} (h : CuIs w C H b col p cap L) (hc : Chg S w w') (hC : ¬ S C) (hS : ∀ g, rowB p g → ¬ S g) : CuIs w' C H b col p cap L :=
  h.kept (hc.block C h.ltC hC) (fun g hg => hc.block g (h.lt g hg) (hS g hg)) hc.size
theorem CuIs.later (h : CuIs w C H b col p cap L) (hb : Below w.heap.size w w') : CuIs w' C H b col p cap L := h.kept (hb.block _ h.ltC) (fun g hg => hb.block g (h.lt g hg)) hb.size
theorem CuIs.drewN (h : CuIs w C H b col p cap L) (n : Nat) : CuIs (w.drewN n) C H b col p cap L := h.kept rfl (fun _ _ => rfl) (Nat.le_refl _)
/-- Without its first slot. -/
theorem CuIs.next {g off : Nat} {a : Int} {t : List Int} (h : CuIs w C H b col (some ⟨g, off, none⟩) cap (a :: t)) : CuIs (w.setCell ⟨C, 3, none⟩ (.slice (some ⟨g, off + 1, none⟩) t.length (cap - 1))) C H b col (some ⟨g, off + 1, none⟩) (cap - 1) t := by
  have hgC : g ≠ C := fun e => h.ne (by rw [← e]; rfl)
  have hle := h.le
  rw [List.length_cons] at hle
  refine ⟨(other (by simp)).trans h.c0, (other (by simp)).trans h.c1, (other (by simp)).trans h.c2, same h.c3, (World.frozen?_setCell ..).trans h.f3, ?_, by omega, fun e => h.ne (by cases e; rfl), fun k e => by rw [Row.size_setCell]; exact h.lt k (by cases e; rfl)⟩
  have hr := h.rd.kept (w' := w.setCell ⟨C, 3, none⟩ (.slice (some ⟨g, off + 1, none⟩) t.length (cap - 1))) (fun k hk _ => Below.heap_setCell _ _ _ _ (fun e => h.ne (by rw [← (show k = C from e)]; exact hk)))
  rcases hr with ⟨e, _⟩ | ⟨g', off', e, hcell⟩
  · cases e
  · cases e
    refine .inr ⟨g, off + 1, rfl, fun j hj => ?_⟩
    have := hcell (j + 1) (by rw [List.length_cons]; omega)
    rw [List.getD_cons_succ] at this
    rw [← this, show off + 1 + j = off + (j + 1) by omega]
theorem CuIs.last {g off : Nat} {a : Int} (h : CuIs w C H b col (some ⟨g, off, none⟩) cap [a]) : CuIs (w.setCell ⟨C, 3, none⟩ (.slice (some ⟨g, off, none⟩) 0 0)) C H b col (some ⟨g, off, none⟩) 0 [] :=
  ⟨(other (by simp)).trans h.c0, (other (by simp)).trans h.c1, (other (by simp)).trans h.c2, same h.c3, (World.frozen?_setCell ..).trans h.f3, .inr ⟨g, off, rfl, fun j hj => by simp at hj⟩, Nat.le_refl _, h.ne, fun k e => by rw [Row.size_setCell]; exact h.lt k e⟩
end

section
variable {C H : Nat} {b col : Int} {p : Option Addr} {cap : Nat} {L : List Int}
end
end Go.Proofs.YtkfgchhlekdpgaaGreatDoor.Sw

namespace Go.Proofs.YtkfgchhlekdpgaaGreatDoor.Sw
open Go.RowKit
open Blk (Cfg)
open Hp (Ids St Wf Is To Mine bnI bn coE coV frE frS colB)
open Go.Proofs.YtkfgchhlekdpgaaGreatDoor.Row (Chg Rd cell_of_block frozen_of_block other same rowB)
open Go.Proofs.YtkfgchhlekdpgaaGreatDoor.Addr (Tabs)

/-- Is a slot's turn its end? What is there then; what is told. -/
def swB (s : St) (col a : Int) : Bool := bnI s a && !(coV s a == col)
def swT (s : St) (col a : Int) : St := if swB s col a = true then frS s a.toNat else s
def swV (s : St) (col a : Int) : Int := if swB s col a = true then a else 0

/-- A heap and a cursor on it, since w1. -/
structure Hc (w1 : World) (H : Nat) (d0 : Ids) (C : Nat) (w : World) (d : Ids) (s : St) (m : Nat) (b col : Int) (p : Option Addr) (cap : Nat) (L : List Int) : Prop where
  is : Is w H d s m
  tb : Tabs w
  cu : CuIs w C H b col p cap L
  nC : ¬ Mine H d C
  nR : ∀ g, rowB p g → ¬ Mine H d g
  hi : 1 < C ∧ 0 < C
  chg : Chg (fun k => Mine H d0 k ∨ k = C) w1 w
  inD : ∀ k, Mine H d k → Mine H d0 k ∨ w1.heap.size ≤ k
section
variable {w1 w w' : World} {H C m m' : Nat} {d0 d : Ids} {s s' : St} {b col : Int} {p : Option Addr} {cap : Nat} {L : List Int}
theorem Hc.heap (h : Hc w1 H d0 C w d s m b col p cap L) (hT : To w w' H d s' m') : ∃ d', Hc w1 H d0 C w' d' s' m' b col p cap L := by
  obtain ⟨d', g1, g2, g3⟩ := hT
  have hs := h.chg.size
  exact ⟨d', g1, h.is.tabs g2 h.tb, h.cu.chg g2 h.nC h.nR, fun e => (g3 C e).elim h.nC (fun x => by have := h.cu.ltC; omega), fun g hg e => (g3 g e).elim (h.nR g hg) (fun x => by have := h.cu.lt g hg; omega), h.hi,
    h.chg.trans g2 (fun q e => (h.inD q e).imp .inl id), fun k e => (g3 k e).elim (h.inD k) (fun x => .inr (by omega))⟩
theorem Hc.later (h : Hc w1 H d0 C w d s m b col p cap L) (hb : Below w.heap.size w w') : Hc w1 H d0 C w' d s m b col p cap L :=
  ⟨h.is.later hb, h.tb.later hb, h.cu.later hb, h.nC, h.nR, h.hi, h.chg.trans (Chg.of_below (S := fun k => Mine H d0 k ∨ k = C) hb) (fun _ e => .inl e), h.inD⟩
theorem Hc.turn (h : Hc w1 H d0 C w d s m b col p cap L) {v : Value} {p' : Option Addr} {cap' : Nat} {L' : List Int} (hcu : CuIs (w.setCell ⟨C, 3, none⟩ v) C H b col p' cap' L') (hp : ∀ g, rowB p' g → rowB p g) : Hc w1 H d0 C (w.setCell ⟨C, 3, none⟩ v) d s m b col p' cap' L' := by
  have hC : Chg (fun k => k = C) w (w.setCell ⟨C, 3, none⟩ v) := Chg.set (S := fun k => k = C) (Chg.refl _ w) (.inl rfl) _
  have hl := h.cu.ltC
  have hb : Below (max 1 0 + 1) w (w.setCell ⟨C, 3, none⟩ v) := hC.below (fun k hk => by have := h.hi; omega) (by have := h.hi; omega)
  exact ⟨h.is.chg hC (fun k e e2 => h.nC (e2 ▸ e)), h.tb.below hb (by omega) (by omega), hcu, h.nC, fun g hg => h.nR g (hp g hg), h.hi, h.chg.trans hC (fun q e => .inl (.inr e)), h.inD⟩

end
end Go.Proofs.YtkfgchhlekdpgaaGreatDoor.Sw

namespace Go.Proofs.YtkfgchhlekdpgaaGreatDoor.Sw
open Go.RowKit
open Blk (Cfg)
open Hp (Ids St Wf Is To Mine bnI bn coE coV frE frS colB holdsF)
open Go.Proofs.YtkfgchhlekdpgaaGreatDoor.Row (Chg Rd cell_of_block frozen_of_block other same rowB cellsZ cellsZ_snoc owns_lt owns_chg owns_slice owns_base push_row info_parts infoInt one_at)
open Go.Proofs.YtkfgchhlekdpgaaGreatDoor.Addr (Tabs)

/-- What is there behind all turns; what they free. -/
def swS (s : St) (col : Int) : List Int → St
  | [] => s
  | a :: l => swS (swT s col a) col l
def swF (s : St) (col : Int) : List Int → List Int
  | [] => []
  | a :: l => (if swB s col a = true then [a] else []) ++ swF (swT s col a) col l
theorem swF_len (s : St) (col : Int) (l : List Int) : (swF s col l).length ≤ l.length := by
  induction l generalizing s with
  | nil => exact Nat.le_refl _
  | cons a l ih =>
    have := ih (swT s col a)
    unfold swF
    split <;> simp <;> omega

section
variable {w1 w w' : World} {H C m m' : Nat} {d0 d d' : Ids} {s s' : St} {b col : Int} {p p' : Option Addr} {cap cap' : Nat} {L L' : List Int}
theorem Hc.self (h : Hc w1 H d0 C w d s m b col p cap L) : Hc w H d C w d s m b col p cap L := ⟨h.is, h.tb, h.cu, h.nC, h.nR, h.hi, Chg.refl _ _, fun _ e => .inl e⟩
theorem Hc.trans (h : Hc w1 H d0 C w d s m b col p cap L) (h2 : Hc w H d C w' d' s' m' b col p' cap' L') : Hc w1 H d0 C w' d' s' m' b col p' cap' L' :=
  ⟨h2.is, h2.tb, h2.cu, h2.nC, h2.nR, h2.hi, h.chg.trans h2.chg (fun q e => e.elim (fun e => (h.inD q e).imp .inl id) (fun e => .inl (.inr e))), fun k e => (h2.inD k e).elim (h.inD k) (fun x => .inr (by have := h.chg.size; omega))⟩
theorem Hc.blocks {S : Nat → Prop} (h : Hc w1 H d0 C w d s m b col p cap L) (hc : Chg S w w') (hS : ∀ g, S g → ¬ Mine H d g ∧ g ≠ C ∧ ¬ rowB p g ∧ w1.heap.size ≤ g) (hC : C < w1.heap.size) : Hc w1 H d0 C w' d s m b col p cap L :=
  have hs := h.chg.size
  have hb : Below (max 1 0 + 1) w w' := hc.below (fun k hk => by have := h.hi; have := (hS k hk).2.2.2; omega) (by have := h.hi; omega)
  ⟨h.is.chg hc (fun k e e2 => (hS k e2).1 e), h.tb.below hb (by omega) (by omega), h.cu.chg hc (fun e => (hS C e).2.1 rfl) (fun g hg e => (hS g e).2.2.1 hg), h.nC, h.nR, h.hi, h.chg.trans hc (fun q e => .inr (hS q e).2.2.2), h.inD⟩

/-- A heap, a cursor on it, and the row of what was freed. -/
structure Ou (w1 : World) (H : Nat) (d0 : Ids) (C : Nat) (w : World) (d : Ids) (s : St) (m : Nat) (b col : Int) (p : Option Addr) (cap : Nat) (L fo : List Int) (po : Option Addr) (co : Nat) : Prop where
  hc : Hc w1 H d0 C w d s m b col p cap L
  own : w.ownsRow w1.heap.size 3 1 (.slice po fo.length co) fo.length (cellsZ fo)
  av : ∀ g, rowB po g → ¬ Mine H d g ∧ g ≠ C ∧ ¬ rowB p g
variable {fo : List Int} {po : Option Addr} {co : Nat}
theorem Ou.step (h : Ou w1 H d0 C w d s m b col p cap L fo po co) (h2 : Hc w H d C w' d' s' m' b col p' cap' L') (hp : ∀ g, rowB p' g → rowB p g) : Ou w1 H d0 C w' d' s' m' b col p' cap' L' fo po co :=
  ⟨h.hc.trans h2, owns_chg h.own h2.chg (fun g hg e => e.elim (h.av g hg).1 (h.av g hg).2.1), fun g hg => ⟨fun e => (h2.inD g e).elim (h.av g hg).1 (fun x => by have := (owns_lt h.own hg).2; omega), (h.av g hg).2.1, fun e => (h.av g hg).2.2 (hp g e)⟩⟩
theorem Ou.push {a : Int} {po' : Option Addr} {co' : Nat} (h : Ou w1 H d0 C w d s m b col p cap L fo po co) (hC : C < w1.heap.size) (hc : Chg (rowB po) w w') (ho : w'.ownsRow w1.heap.size 3 1 (.slice po' (fo ++ [a]).length co') (fo ++ [a]).length (cellsZ (fo ++ [a]))) (hR : ∀ g, rowB po' g → rowB po g ∨ w.heap.size ≤ g) :
    Ou w1 H d0 C w' d s m b col p cap L (fo ++ [a]) po' co' :=
  ⟨h.hc.blocks hc (fun g hg => ⟨(h.av g hg).1, (h.av g hg).2.1, (h.av g hg).2.2, (owns_lt h.own hg).1⟩) hC, ho, fun g hg => (hR g hg).elim (h.av g) (fun x => ⟨fun e => by have := h.hc.is.lt e; omega, fun e => by have := h.hc.cu.ltC; omega, fun e => by have := h.hc.cu.lt g e; omega⟩)⟩

/-- How many slots a cursor has left. -/
def lenAt (w : World) (C : Nat) : Nat := match w.cell? ⟨C, 3, none⟩ with | some (.slice _ n _) => n | _ => 0
theorem CuIs.len (h : CuIs w C H b col p cap L) : lenAt w C = L.length := by unfold lenAt; rw [h.c3]

end
end Go.Proofs.YtkfgchhlekdpgaaGreatDoor.Sw

namespace Go.Proofs.YtkfgchhlekdpgaaGreatDoor.Sw
open Go.RowKit
open Blk (Cfg TbIs kAt seg seg_length perN)
open Hp (Ids St Wf Is To Mine bnI bn coE coV frE frS colB holdsF)
open Go.Proofs.YtkfgchhlekdpgaaGreatDoor.Row (Chg Rd cell_of_block frozen_of_block other same rowB cellsZ cellsZ_snoc owns_lt owns_chg owns_slice owns_base owns_cap push_row info_parts infoInt one_at)
open Go.Proofs.YtkfgchhlekdpgaaGreatDoor.Addr (Tabs)

theorem seg_le (s : St) (b : Nat) : (seg s.c s.ks b).length ≤ 128 := by rw [seg_length]; exact Blk.perN_le _ _
section
variable {H m : Nat} {d : Ids} {s : St}
end
end Go.Proofs.YtkfgchhlekdpgaaGreatDoor.Sw

namespace Go.Proofs.YtkfgchhlekdpgaaGreatDoor.Sw
open Go.RowKit
open Blk (Cfg TbIs kAt seg seg_length perN allP allP_succ allP_len)
open Hp (Ids St Wf Is To Mine bnI bn coE coV frE frS colB holdsF)
open Go.Proofs.YtkfgchhlekdpgaaGreatDoor.Row (Chg Rd Rd0 cell_of_block frozen_of_block other same rowB cellsZ cellsZ_length cellsZ_at cellsZ_snoc owns_lt owns_chg owns_slice owns_base owns_cap owns_block push_row info_parts infoInt one_at)
open Go.Proofs.YtkfgchhlekdpgaaGreatDoor.Addr (Tabs)

theorem swT_c (s : St) (col a : Int) : (swT s col a).c = s.c := by unfold swT; split <;> rfl
theorem swT_ks (s : St) (col a : Int) : (swT s col a).ks = s.ks := by unfold swT; split <;> rfl
theorem swS_c (s : St) (col : Int) (l : List Int) : (swS s col l).c = s.c := by
  induction l generalizing s with
  | nil => rfl
  | cons a l ih => rw [swS, ih, swT_c]
theorem swS_ks (s : St) (col : Int) (l : List Int) : (swS s col l).ks = s.ks := by
  induction l generalizing s with
  | nil => rfl
  | cons a l ih => rw [swS, ih, swT_ks]
theorem swS_append (s : St) (col : Int) (l l2 : List Int) : swS s col (l ++ l2) = swS (swS s col l) col l2 := by
  induction l generalizing s with
  | nil => rfl
  | cons a l ih => rw [List.cons_append, swS, ih, swS]
theorem swF_append (s : St) (col : Int) (l l2 : List Int) : swF s col (l ++ l2) = swF s col l ++ swF (swS s col l) col l2 := by
  induction l generalizing s with
  | nil => rfl
  | cons a l ih => rw [List.cons_append, swF, ih, swF, swS, List.append_assoc]

/-- What sweeping leaves: what was freed, in a new row. -/
def Swept (w : World) (H : Nat) (d : Ids) (s' : St) (m' : Nat) (l : List Int) (e : Ending) (w' : World) : Prop :=
  ∃ d' po co, e = .returned (.tuple #[.slice po l.length co, .int .i64 0]) ∧ Is w' H d' s' m' ∧ Tabs w' ∧ Chg (Mine H d) w w' ∧ (∀ j, Mine H d' j → Mine H d j ∨ w.heap.size ≤ j) ∧ w'.ownsRow w.heap.size 3 1 (.slice po l.length co) l.length (cellsZ l) ∧ ∀ g, rowB po g → ¬ Mine H d' g

section
variable {H m : Nat} {d : Ids} {s : St}

end

theorem run_append_row2 (w : World) (base : Nat) (ty : TypeId) (pl : Option Addr) (cap : Nat) (l : List Int) (hown : w.ownsRow base 3 1 (.slice pl l.length cap) l.length (cellsZ l))
    (pa : Option Addr) (ca : Nat) (za : List Int) (ha : Rd0 w pa za) (hl : l.length + za.length ≤ 1048576) (hbase : base ≤ w.heap.size) :
    ∃ p' c' w', (Builtin.append_ #[40, 40] ty #[.slice pl l.length cap, .slice pa za.length ca]).run Tryz.prog w = .ok (.slice p' (l ++ za).length c') w' ∧ w'.ownsRow base 3 1 (.slice p' (l ++ za).length c') (l ++ za).length (cellsZ (l ++ za)) ∧ Chg (rowB pl) w w' ∧ ∀ g, rowB p' g → rowB pl g ∨ w.heap.size ≤ g := by
  obtain ⟨i, hi, hz, hs, hb⟩ := info_parts infoInt
  have hcz : cellsZ (l ++ za) = cellsZ l ++ cellsZ za := by simp [cellsZ]
  rw [List.length_append, hcz]
  cases pa with
  | none =>
    have hza : za = [] := by
      cases za with
      | nil => rfl
      | cons x xs => obtain ⟨g, off, e, _⟩ := ha 0 (by simp); cases e
    subst hza
    obtain ⟨h1, ⟨h2, h3⟩ | ⟨g, c, cur, e1, e2, e3, e4, r⟩⟩ := id hown
    · obtain rfl := List.eq_nil_of_length_eq_zero h3
      cases h2
      exact ⟨none, 0, w, Hp.run_append_none0 w _ _ _ i Tryz.underlying40 hi ca, by simpa [cellsZ] using hown, Chg.refl _ _, fun g hg => .inl hg⟩
    · cases e1
      exact ⟨_, _, w, Lis.run_append_none w _ _ _ i Tryz.underlying40 hi _ _ _ ca e4, by simpa [cellsZ] using hown, Chg.refl _ _, fun g hg => .inl hg⟩
  | some ad =>
    obtain ⟨v', w', h1, h2, h3, _, h5⟩ := run_append_own_at (P := Tryz.prog) w base 40 ty 3 i (.int .i64 0) 1 8 Tryz.underlying40 hi hz hs hb rfl (by decide) _ _ _ hown ad za.length ca (cellsZ za) (by simp [cellsZ]) (fun j u hj => by
      have hjl : j < za.length := by have := (List.getElem?_eq_some_iff.1 hj).1; simpa [cellsZ] using this
      rw [cellsZ_at za hjl] at hj
      cases hj
      obtain ⟨g, off, e, hc⟩ := ha j hjl
      cases e
      rw [Addr.add_lit]
      exact hc) (fun u hu => by obtain ⟨x, _, rfl⟩ := List.mem_map.1 hu; rfl) (by unfold maxLen; omega) (by omega) hbase
    obtain ⟨p', c', rfl, hC, hR⟩ := push_row (Below.refl _ w) h2 h3 h5
    exact ⟨p', c', w', h1, h2, hC, hR⟩
theorem wpList_append_row2 {ops : Array Oper} {rest : List Oper} {o : Oper} {a : Act} {w : World} {Q : Exit → Act → World → Prop} (hgd : o.guard = none) (s x : Operand)
    (ho : o.op = .call { callee := .builtin .append, args := #[s, x], argTypes := #[40, 40] })
    (base : Nat) (pl : Option Addr) (cap : Nat) (l : List Int) (he : a.eval s = .slice pl l.length cap) (hown : w.ownsRow base 3 1 (.slice pl l.length cap) l.length (cellsZ l))
    (pa : Option Addr) (ca : Nat) (za : List Int) (hx : a.eval x = .slice pa za.length ca) (ha : Rd0 w pa za) (hl : l.length + za.length ≤ 1048576) (hbase : base ≤ w.heap.size)
    (h : ∀ p' c' w', w'.ownsRow base 3 1 (.slice p' (l ++ za).length c') (l ++ za).length (cellsZ (l ++ za)) → Chg (rowB pl) w w' → (∀ g, rowB p' g → rowB pl g ∨ w.heap.size ≤ g) → wpList Tryz.prog ops Q rest (a.put o.dst (.slice p' (l ++ za).length c')) w') :
    wpList Tryz.prog ops Q (o :: rest) a w := by
  refine wpList_plain hgd fun K hK => ?_
  obtain ⟨p', c', w', hr, h2, h3, h4⟩ := run_append_row2 w base o.type pl cap l hown pa ca za ha hl hbase
  unfold Oper.wp execOp
  simp only [ho, resolve, invoke, builtin, Sem.run_bind, Sem.run_pure, Result.andThen_ok, List.map_toArray, List.map_cons, List.map_nil, he, hx, hr]
  exact hK _ _ (h p' c' w' h2 h3 h4)
end Go.Proofs.YtkfgchhlekdpgaaGreatDoor.Sw

namespace Go.Proofs.YtkfgchhlekdpgaaGreatDoor.Sw
open Go.RowKit
open Blk (Cfg TbIs kAt seg seg_length perN allP allP_succ allP_len)
open Hp (Ids St Wf Is To Mine bnI bn coE coV frE frS colB holdsF)
open Go.Proofs.YtkfgchhlekdpgaaGreatDoor.Row (Chg Rd Rd0 cell_of_block frozen_of_block other same rowB cellsZ cellsZ_length cellsZ_at cellsZ_snoc owns_lt owns_chg owns_slice owns_base owns_cap owns_block push_row info_parts infoInt one_at)
open Go.Proofs.YtkfgchhlekdpgaaGreatDoor.Addr (Tabs)

/-- While blocks are swept: the heap, the copy of its table, the row of what was freed. -/
structure Al (w wr : World) (H : Nat) (d0 d : Ids) (s : St) (m B : Nat) (pt : Option Addr) (ct : Nat) (fo : List Int) (po : Option Addr) (co : Nat) : Prop where
  is : Is wr H d s m
  tb : Tabs wr
  chg : Chg (Mine H d0) w wr
  inD : ∀ k, Mine H d k → Mine H d0 k ∨ w.heap.size ≤ k
  tab : TbIs wr B w.heap.size s.c s.ks pt ct
  own : wr.ownsRow w.heap.size 3 1 (.slice po fo.length co) fo.length (cellsZ fo)
  avT : ∀ g, g = B ∨ rowB pt g → ¬ Mine H d g
  avO : ∀ g, rowB po g → ¬ Mine H d g ∧ g ≠ B ∧ ¬ rowB pt g
section
variable {w wr w' : World} {H m m' B : Nat} {d0 d d' : Ids} {s s' : St} {pt : Option Addr} {ct : Nat} {fo : List Int} {po : Option Addr} {co : Nat}
theorem Al.later (h : Al w wr H d0 d s m B pt ct fo po co) (hb : Below wr.heap.size wr w') : Al w w' H d0 d s m B pt ct fo po co :=
  ⟨h.is.later hb, h.tb.later hb, h.chg.trans (Chg.of_below (S := Mine H d0) hb) (fun _ e => .inl e), h.inD, h.tab.later hb, owns_block h.own (fun g hg => hb.block g (owns_lt h.own hg).2), h.avT, h.avO⟩
/-- A cursor's block, and the heap, turned. -/
theorem Al.sweep {w3 : World} {C : Nat} {b col : Int} {p : Option Addr} {cap : Nat} {L : List Int} (h : Al w wr H d0 d s m B pt ct fo po co) (hb : Below wr.heap.size wr w3) (hC : wr.heap.size ≤ C) (h2 : Hc w3 H d C w' d' s' m' b col p cap L) (hc : s'.c = s.c) (hk : s'.ks = s.ks) :
    Al w w' H d0 d' s' m' B pt ct fo po co := by
  have h3 := h.later hb
  have hs1 := h.chg.size
  have hs2 := hb.size
  have av : ∀ g, g < wr.heap.size → ¬ Mine H d g → ¬ (Mine H d g ∨ g = C) := fun g hg hn e => e.elim hn (fun x => by omega)
  have av2 : ∀ g, g < wr.heap.size → ¬ Mine H d g → ¬ Mine H d' g := fun g hg hn e => (h2.inD g e).elim hn (fun x => by omega)
  refine ⟨h2.is, h2.tb, h3.chg.trans h2.chg (fun q (e : Mine H d q ∨ q = C) => e.elim (h.inD q) (fun e => .inr (by omega))), fun k e => (h2.inD k e).elim (h.inD k) (fun x => .inr (by omega)), ?_, owns_chg h3.own h2.chg (fun g hg => av g (owns_lt h.own hg).2 (h.avO g hg).1), fun g hg => ?_, fun g hg => ⟨av2 g (owns_lt h.own hg).2 (h.avO g hg).1, (h.avO g hg).2⟩⟩
  · rw [hc, hk]
    exact h3.tab.kept (h2.chg.block B h3.tab.ltB (av B h.tab.ltB (h.avT B (.inl rfl)))) (fun g hg => h2.chg.block g (h3.tab.ltG hg).2 (av g (h.tab.ltG hg).2 (h.avT g (.inr hg))))
  · rcases hg with rfl | hg
    · exact av2 _ h.tab.ltB (h.avT _ (.inl rfl))
    · exact av2 g (h.tab.ltG hg).2 (h.avT g (.inr hg))
theorem Al.push {po' : Option Addr} {co' : Nat} {fo' : List Int} (h : Al w wr H d0 d s m B pt ct fo po co) (hc : Chg (rowB po) wr w') (ho : w'.ownsRow w.heap.size 3 1 (.slice po' fo'.length co') fo'.length (cellsZ fo')) (hR : ∀ g, rowB po' g → rowB po g ∨ wr.heap.size ≤ g)
    (hl : 1 < w.heap.size ∧ 0 < w.heap.size) : Al w w' H d0 d s m B pt ct fo' po' co' := by
  have hs := h.chg.size
  have hb : Below (max 1 0 + 1) wr w' := hc.below (fun k hk => by have := (owns_lt h.own hk).1; omega) (by omega)
  refine ⟨h.is.chg hc (fun k e e2 => (h.avO k e2).1 e), h.tb.below hb (by omega) (by omega), h.chg.trans hc (fun q e => .inr (owns_lt h.own e).1), h.inD, h.tab.kept (hc.block B h.tab.ltB (fun e => (h.avO B e).2.1 rfl)) (fun g hg => hc.block g (h.tab.ltG hg).2 (fun e => (h.avO g e).2.2 hg)), ho, h.avT, fun g hg => (hR g hg).elim (h.avO g) (fun x => ⟨fun e => by have := h.is.lt e; omega, fun e => by have := h.tab.ltB; omega, fun e => by have := (h.tab.ltG e).2; omega⟩)⟩
end

end Go.Proofs.YtkfgchhlekdpgaaGreatDoor.Sw

namespace Go.Proofs.YtkfgchhlekdpgaaGreatDoor.Sw
open Go.RowKit
open Blk (Cfg TbIs kAt seg seg_length perN allP allP_succ allP_len blk adr)
open Hp (Ids St Wf Is To Mine bnI bn coE coV frE frS colB holdsF own cls fr puS unS mem_allP bnI_nat frI_nat fr_false fr_true)
open Rf (Rp RTo Pu Ri Sl All SlOk slC stI)
open Bits (SetIs)
open Go.Proofs.YtkfgchhlekdpgaaGreatDoor.Row (Chg Rd Rd0 cell_of_block frozen_of_block other same rowB cellsZ cellsZ_length cellsZ_at cellsZ_snoc owns_lt owns_chg owns_slice owns_base owns_cap owns_block push_row info_parts infoInt one_at)
open Go.Proofs.YtkfgchhlekdpgaaGreatDoor.Addr (Tabs)

theorem nodup_len : ∀ (n : Nat) (l : List Nat), l.Nodup → (∀ a ∈ l, 1 ≤ a ∧ a ≤ n) → l.length ≤ n
  | 0, l, _, h => by
    cases l with
    | nil => exact Nat.le_refl _
    | cons a l => have := h a (by simp); omega
  | n + 1, l, hd, h => by
    by_cases hm : n + 1 ∈ l
    · have h1 := nodup_len n (l.erase (n + 1)) (hd.erase _) (fun a ha => by
        have h2 := (hd.mem_erase_iff).1 ha
        have := h a h2.2
        have := h2.1
        omega)
      rw [List.length_erase_of_mem hm] at h1
      omega
    · have := nodup_len n l hd (fun a ha => by
        have := h a ha
        have : a ≠ n + 1 := fun e => hm (e ▸ ha)
        omega)
      omega
theorem hv_len {s : St} (hw : Wf s) (hp : Pu s) {k : Nat} (hk : k < 4) : (s.hv k).length ≤ s.ws.length :=
  nodup_len _ _ ((Rf.freL_parts hp.nd).1 k hk) (fun a ha => by have := hw.fr_bd (fr_true.2 ⟨k, hk, ha⟩); omega)
/-- A heap as the document has it: what always holds, besides. -/
structure Wp (s : St) : Prop where
  wf : Wf s
  pu : Pu s
  k4 : ∀ j, kAt s.ks j < 4
  sm : s.ws.length ≤ 500000
theorem Wp.fr' {s : St} (h : Wp s) {a : Int} (hb : bnI s a = true) : Wp (frS s a.toNat) := by
  have ho := h.wf.bnI_own hb
  obtain ⟨n, rfl, n1, n2⟩ := Rf.own_nat h.wf ho
  rw [Int.toNat_natCast]
  have hbn : bn s n = true := by rw [← bnI_nat]; exact hb
  have hfr : fr s n = false := by
    cases e : fr s n with
    | false => rfl
    | true =>
      obtain ⟨k, hk, hm⟩ := fr_true.1 e
      have := (h.wf.free k hk n hm).2.2.1
      rw [hbn] at this
      cases this
  have hun := Rf.pu_un h.pu n2
  refine ⟨Rf.put_wf (s := unS s n) (Rf.un_wf h.wf h.pu n2) (h.k4 _) ho (Rf.un_bn h.pu n2), hun.put hfr (Nat.lt_of_le_of_lt (hv_len h.wf h.pu (h.k4 _)) (by have := h.sm; omega)), h.k4, ?_⟩
  show (s.ws.set _ _).length ≤ _
  rw [List.length_set]
  exact h.sm
theorem Wp.swT {s : St} (h : Wp s) (col a : Int) : Wp (swT s col a) := by
  unfold Sw.swT
  split
  · rename_i hb
    refine h.fr' ?_
    unfold swB at hb
    rw [Bool.and_eq_true] at hb
    exact hb.1
  · exact h
theorem Wp.swS {s : St} (h : Wp s) (col : Int) (l : List Int) : Wp (swS s col l) := by
  induction l generalizing s with
  | nil => exact h
  | cons a l ih => exact ih (h.swT col a)

/-- Is an address one of a block's? -/
def inBl (s : St) (b a : Int) : Bool := (a - 1) / s.c.wd == b
theorem filter_seg {s : St} (hw : Wf s) (hk : ∀ j, kAt s.ks j < 4) (b : Nat) : ∀ n, n ≤ s.ks.length → (allP s.c s.ks n).filter (inBl s b) = if b < n then seg s.c s.ks b else []
  | 0, _ => by simp [allP]
  | n + 1, hn => by
    rw [allP_succ, List.filter_append, filter_seg hw hk b n (by omega)]
    have hall : ∀ x ∈ seg s.c s.ks n, (x - 1) / s.c.wd = (n : Int) := fun x hx => by
      obtain ⟨i, hi, rfl⟩ := List.mem_map.1 hx
      rw [List.mem_range] at hi
      have hbd := Blk.adr_bd (b := n) (i := i) (k := (kAt s.ks n : Nat)) hw.right (by have := hw.full; omega) (by rw [Blk.perN_eq]; omega)
      have hwd : 0 < s.c.wd := by have := (Blk.slots_bd hw.right).wd0; omega
      show (((n : Int) * s.c.wd + 1 + (i : Int) * _) - 1) / s.c.wd = n
      rw [show ((n : Int) * s.c.wd + 1 + (i : Int) * Class.sizI (kAt s.ks n : Nat)) - 1 = (i : Int) * Class.sizI (kAt s.ks n : Nat) + n * s.c.wd by omega, Int.add_mul_ediv_right _ _ (by omega), Int.ediv_eq_zero_of_lt hbd.2.1 (by omega)]
      omega
    by_cases e : b = n
    · subst e
      rw [if_neg (Nat.lt_irrefl _), if_pos (Nat.lt_succ_self _), List.nil_append]
      exact List.filter_eq_self.2 (fun x hx => by unfold inBl; rw [hall x hx]; simp)
    · have h0 : (seg s.c s.ks n).filter (inBl s b) = [] := List.filter_eq_nil_iff.2 (fun x hx => by unfold inBl; rw [hall x hx]; simp; omega)
      rw [h0, List.append_nil]
      by_cases h1 : b < n
      · rw [if_pos h1, if_pos (by omega)]
      · rw [if_neg h1, if_neg (by omega)]
theorem swF_one (s : St) (col a : Int) : swF s col [a] = if swB s col a = true then [a] else [] := by simp [swF]
theorem swS_one (s : St) (col a : Int) : swS s col [a] = swT s col a := rfl
end Go.Proofs.YtkfgchhlekdpgaaGreatDoor.Sw

namespace Go.Proofs.YtkfgchhlekdpgaaGreatDoor.Sw
open Go.RowKit
open Blk (Cfg TbIs kAt seg seg_length perN allP allP_succ allP_len blk adr)
open Hp (Ids St Wf Is To Mine bnI bn coE coV frE frS colB holdsF own cls fr puS unS mem_allP bnI_nat frI_nat fr_false fr_true)
open Rf (Rp RTo Pu Ri Sl All SlOk slC stI)
open Go.Proofs.YtkfgchhlekdpgaaGreatDoor.Row (Chg Rd Rd0 cell_of_block frozen_of_block other same rowB cellsZ cellsZ_length cellsZ_at cellsZ_snoc owns_lt owns_chg owns_slice owns_base owns_cap owns_block push_row info_parts infoInt one_at)
open Go.Proofs.YtkfgchhlekdpgaaGreatDoor.Addr (Tabs)

/-- While the document's slots are gone through. -/
structure Rs (w wr : World) (M base : Nat) (i0 i : Ri) (s : St) (fo : List Int) (po : Option Addr) (co : Nat) : Prop where
  rp : Rp wr M base i s
  chg : Chg (All M i0) w wr
  inI : ∀ k, All M i k → All M i0 k ∨ w.heap.size ≤ k
  own : wr.ownsRow w.heap.size 3 1 (.slice po fo.length co) fo.length (cellsZ fo)
  av : ∀ g, rowB po g → ¬ All M i g
section
variable {w wr w' : World} {M base : Nat} {i0 i : Ri} {s s' : St} {fo : List Int} {po : Option Addr} {co : Nat}
theorem Rs.later (h : Rs w wr M base i0 i s fo po co) (hb : Below wr.heap.size wr w') : Rs w w' M base i0 i s fo po co :=
  ⟨h.rp.later hb, h.chg.trans (Chg.of_below (S := All M i0) hb) (fun _ e => .inl e), h.inI, owns_block h.own (fun g hg => hb.block g (owns_lt h.own hg).2), h.av⟩
theorem Rs.drewN (h : Rs w wr M base i0 i s fo po co) (n : Nat) : Rs w (wr.drewN n) M base i0 i s fo po co := h.later (below_drewN (Below.refl _ _) n)
theorem Rs.ref (h : Rs w wr M base i0 i s fo po co) (hT : RTo wr w' M base i s') : ∃ i', Rs w w' M base i0 i' s' fo po co := by
  obtain ⟨i', g1, g2, g3⟩ := hT
  have hs := h.chg.size
  exact ⟨i', g1, h.chg.trans g2 (fun q e => h.inI q e), fun k e => (g3 k e).elim (h.inI k) (fun x => .inr (by omega)), owns_chg h.own g2 (fun g hg e => h.av g hg e), fun g hg e => (g3 g e).elim (h.av g hg) (fun x => by have := (owns_lt h.own hg).2; omega)⟩
theorem Rs.push {fo' : List Int} {po' : Option Addr} {co' : Nat} (h : Rs w wr M base i0 i s fo po co) (hc : Chg (rowB po) wr w') (ho : w'.ownsRow w.heap.size 3 1 (.slice po' fo'.length co') fo'.length (cellsZ fo')) (hR : ∀ g, rowB po' g → rowB po g ∨ wr.heap.size ≤ g) : Rs w w' M base i0 i s fo' po' co' :=
  ⟨h.rp.chg hc (fun k e e2 => h.av k e2 e), h.chg.trans hc (fun q e => .inr (owns_lt h.own e).1), h.inI, ho, fun g hg => (hR g hg).elim (h.av g) (fun x e => by have := h.rp.mem.ltA e; omega)⟩
end
/-- What the document's sweeping leaves. -/
def RSwept (w : World) (M base : Nat) (i : Ri) (s' : St) (l : List Int) (e : Ending) (w' : World) : Prop :=
  ∃ i' po co, e = .returned (.slice po l.length co) ∧ Rs w w' M base i i' s' l po co
section
variable {M base : Nat} {i : Ri} {s : St}
end
end Go.Proofs.YtkfgchhlekdpgaaGreatDoor.Sw

namespace Go.Proofs.YtkfgchhlekdpgaaGreatDoor.Sw
open Go.RowKit
open Blk (Cfg TbIs kAt seg seg_length perN allP allP_succ allP_len blk adr)
open Hp (Ids St Wf Is To Mine bnI bn coE coV frE frS colB holdsF own cls fr puS unS mkE mkS mkA st0)
open Rf (Rp RTo Pu Ri Sl All Bo Lo Keep mkW)
open Go.Proofs.YtkfgchhlekdpgaaGreatDoor.Row (Chg Rd Rd0 cell_of_block frozen_of_block other same rowB cellsZ cellsZ_length cellsZ_at cellsZ_snoc owns_lt owns_chg owns_slice owns_base owns_cap owns_block push_row info_parts infoInt one_at)
open Go.Proofs.YtkfgchhlekdpgaaGreatDoor.Addr (Tabs)

/-- A thing: its fields, its color, whether it goes at once. -/
def thN (t : Nat × Nat × Bool) : Int := (t.1 : Int) % 16
def thC (t : Nat × Nat × Bool) : Int := (t.2.1 : Int) % 2
def mk1 (s : St) (t : Nat × Nat × Bool) : St := if mkE s (thN t) (thC t) = 0 then mkS s (thN t) (thC t) else s
def thS (s : St) (t : Nat × Nat × Bool) : St :=
  if mkE s (thN t) (thC t) = 0 ∧ t.2.2 = true then (if frE (mk1 s t) (mkW s (thN t) (thC t)) = 0 then frS (mk1 s t) (mkW s (thN t) (thC t)).toNat else mk1 s t) else mk1 s t
def madeS (s : St) (l : List (Nat × Nat × Bool)) : St := l.foldl thS s
/-- Things that came in, below S. -/
def thAt (l : List (Nat × Nat × Bool)) (j : Nat) : Nat × Nat × Bool := l.getD j (0, 0, false)
def ThingsP (S : Nat) (w : World) (p : Option Addr) (l : List (Nat × Nat × Bool)) : Prop := ∀ j, j < l.length → ∃ b off, p = some ⟨b, off, none⟩ ∧ b < S ∧
  w.cell? ⟨b, off + j * 3, none⟩ = some (.int .u8 (thAt l j).1) ∧ w.cell? ⟨b, off + j * 3 + 1, none⟩ = some (.int .u8 (thAt l j).2.1) ∧ w.cell? ⟨b, off + j * 3 + 2, none⟩ = some (.bool (thAt l j).2.2) ∧ (thAt l j).1 < 256 ∧ (thAt l j).2.1 < 256
theorem ThingsP.below {S : Nat} {W W' : World} {p : Option Addr} {l : List (Nat × Nat × Bool)} (h : ThingsP S W p l) (hb : Below S W W') : ThingsP S W' p l := fun j hj => by
  obtain ⟨b, off, e, hb', h0, h1, h2, h3⟩ := h j hj
  exact ⟨b, off, e, hb', (hb.cell (p := ⟨b, off + j * 3, none⟩) hb').trans h0, (hb.cell (p := ⟨b, off + j * 3 + 1, none⟩) hb').trans h1, (hb.cell (p := ⟨b, off + j * 3 + 2, none⟩) hb').trans h2, h3⟩
theorem mk1_keep (s : St) (t : Nat × Nat × Bool) : Keep s (mk1 s t) := by
  unfold mk1
  split
  · exact Rf.mkS_keep s _ _
  · exact Keep.refl s
theorem frS_keep (s : St) (a : Nat) : Keep s (frS s a) := ⟨rfl, rfl, List.length_set ..⟩
theorem Keep.trans {a b c : St} (h : Keep a b) (k : Keep b c) : Keep a c := ⟨k.1.trans h.1, k.2.1.trans h.2.1, k.2.2.trans h.2.2⟩
/-- What Made leaves. -/
structure Mad (w w' : World) (H M base : Nat) (d : Ids) (i : Ri) (s : St) (m : Nat) (c : Cfg) : Prop where
  bo : Bo w' H d M base i w' d s m i s
  bel : Below w.heap.size w w'
  g1 : ∀ k, Mine H d k → w.heap.size ≤ k
  g2 : ∀ k, All M i k → w.heap.size ≤ k
  hc : s.c = c
  hm : m ≤ 7000
  base : w.heap.size ≤ base
def MadeP (w : World) (s : St) (c : Cfg) (e : Ending) (w' : World) : Prop := ∃ H M base d i m, e = .returned (.tuple #[.pointer (some ⟨H, 0, none⟩), .pointer (some ⟨M, 0, none⟩)]) ∧ Mad w w' H M base d i s m c

set_option maxRecDepth 100000 in
set_option maxHeartbeats 4000000 in
theorem made_any (S : Nat) (c : Cfg) (n nc : Nat) (pa : Option Addr) (ca : Nat) (l : List (Nat × Nat × Bool)) (w : World) (ht : Tabs w) (hR : rightB c.b c.wd c.m c.r c.ce c.lg c.st = true) (hn : c.b * c.wd = (n : Int)) (hnc : c.ce = (nc : Int)) (h64 : nc ≤ 64) (hS : S ≤ w.heap.size) (hl : ThingsP S w pa l) (hla : l.length ≤ maxLen) :
    Calls Tryz.prog 66 #[(.agg #[.int .i64 c.b, .int .i64 c.wd, .int .i64 c.m, .int .i64 c.r, .int .i64 c.ce, .int .i64 c.lg, .int .i64 c.st]), .slice pa l.length ca] w (MadeP w (madeS (st0 c n nc) (l.take 40)) c) := by
  unfold maxLen at hla
  have hbx : Below w.heap.size w (w.alloc (.cells #[.int .i64 c.b, .int .i64 c.wd, .int .i64 c.m, .int .i64 c.r, .int .i64 c.ce, .int .i64 c.lg, .int .i64 c.st] 23)) := (Below.refl _ _).alloc (Nat.le_refl _) _
  have HBX := Lib.hid hbx
  have HTH := Lib.hid hl
  have HT := Lib.hid ht
  have HN1 := Lib.hid (fun (W : World) (hb : Below w.heap.size w W) => Hp.new_good c n nc W (ht.later hb) hR hn hnc)
  have HM1 := Lib.hid (fun (W : World) => Rf.new_any c n nc W hR hn hnc h64)
  have HNC := Lib.hid hnc
  clear hl ht hbx hnc hn
  go_enter Tryz.func66, Tryz.ntmps66
  go_wp2_with fail
  refine (HN1.out _ HBX.out).mono ?_
  rintro e w1 ⟨H, d, rfl, hI, hg1, hb1⟩
  have HI := Lib.hid hI
  have HG1 := Lib.hid hg1
  have HB1 := Lib.hid hb1
  have hbxz : (w.alloc (.cells #[.int .i64 c.b, .int .i64 c.wd, .int .i64 c.m, .int .i64 c.r, .int .i64 c.ce, .int .i64 c.lg, .int .i64 c.st] 23)).heap.size = w.heap.size + 1 := by simp
  have hbw : Below w.heap.size w w1 := HBX.out.trans (hb1.mono (by omega))
  have HBW := Lib.hid hbw
  have key : ∀ o, w1.cell? ⟨w.heap.size, o, none⟩ = (#[Value.int .i64 c.b, .int .i64 c.wd, .int .i64 c.m, .int .i64 c.r, .int .i64 c.ce, .int .i64 c.lg, .int .i64 c.st] : Array Value)[o]? := fun o => by
    rw [hb1.cell (p := ⟨w.heap.size, o, none⟩) (by rw [hbxz]; exact Nat.lt_succ_self _)]
    exact World.cell?_alloc_new ..
  have k0 := key 0
  have k1 := key 1
  have k2 := key 2
  have k3 := key 3
  have k4 := key 4
  have k5 := key 5
  have k6 := key 6
  simp only [List.getElem?_toArray, List.getElem?_cons_zero, List.getElem?_cons_succ] at k0 k1 k2 k3 k4 k5 k6
  clear hI hg1 hb1 key hbxz hbw HN1
  go_wp2_with fail
  refine (HM1.out w1).mono ?_
  rintro e w2 ⟨M, i, rfl, hM, hRp, hb2, hA⟩
  have HB := Lib.hid (Rf.Bo.start HI.out (HT.out.later HBW.out) hRp hb2 hA)
  have HBW2 := Lib.hid (HBW.out.trans (hb2.mono HBW.out.size))
  have HLO : Hid (Lo w w2 w2 H d M w1.heap.size i c n nc d (st0 c n nc) 0 i) := Lib.hid ⟨HB.out, rfl, by simp [st0], by simp [st0], HBW2.out, fun k hk => by have := HG1.out k hk; have := HBX.out.size; omega, fun k hk => by have := hA k hk; have := HBW.out.size; omega, HBW2.out⟩
  clear hM hRp hb2 hA k0 k1 k2 k3 k4 k5 k6 HI HB HM1 HG1
  go_wp2_with fail
  go_loopw [9] (fun x wr => ∃ (j : Nat) (d' : Ids) (m' : Nat) (i' : Ri), j ≤ l.length ∧ j ≤ 40 ∧ x = .int .i64 j ∧ m' ≤ 170 * j ∧ Lo w w2 wr H d M w1.heap.size i c n nc d' (madeS (st0 c n nc) (l.take j)) m' i') (fun x _ => 40 - (intOf x).toNat)
  case atStart => exact ⟨0, d, 0, i, Nat.zero_le _, by omega, rfl, by omega, HLO.out⟩
  case round =>
    clear HLO
    obtain ⟨j, d', m', i', hj, hj4, rfl, hm', hlo⟩ := hrel
    have HLO := Lib.hid hlo
    clear hlo
    have j0 : (0 : Int) ≤ (j : Int) := Int.natCast_nonneg _
    by_cases hlt : j < l.length ∧ j < 40
    · have j1 : (j : Int) < (l.length : Int) := by omega
      have j2 : (j : Int) < 40 := by omega
      obtain ⟨b, off, rfl, hbS, ht0, ht1, ht2, hz0, hz1⟩ := HTH.out j hlt.1
      have HTK : Hid (l.take (j + 1) = l.take j ++ [thAt l j]) := Lib.hid (by
        rw [List.take_add_one, thAt, List.getD_eq_getElem?_getD]
        have : l[j]? = some (l[j]'hlt.1) := List.getElem?_eq_getElem _
        rw [this]; rfl)
      have HCE : Hid (∀ W, Below w.heap.size w W → W.cell? ⟨b, off + j * 3, none⟩ = some (.int .u8 (thAt l j).1) ∧ W.cell? ⟨b, off + j * 3 + 1, none⟩ = some (.int .u8 (thAt l j).2.1)) := Lib.hid fun W hb =>
        ⟨(hb.cell (p := ⟨b, off + j * 3, none⟩) (by show b < _; omega)).trans ht0, (hb.cell (p := ⟨b, off + j * 3 + 1, none⟩) (by show b < _; omega)).trans ht1⟩
      have HC2 : Hid (∀ W, Below w.heap.size w W → W.cell? ⟨b, off + j * 3 + 2, none⟩ = some (.bool (thAt l j).2.2)) := Lib.hid fun W hb => (hb.cell (p := ⟨b, off + j * 3 + 2, none⟩) (by show b < _; omega)).trans ht2
      have HS1 : Hid (madeS (st0 c n nc) (l.take (j + 1)) = thS (madeS (st0 c n nc) (l.take j)) (thAt l j)) := Lib.hid (by
        rw [HTK.out]; simp [madeS, List.foldl_append])
      clear ht0 ht1 ht2 HTK
      generalize hgs : madeS (st0 c n nc) (l.take (j + 1)) = s1 at *
      have HGS := Lib.hid hgs
      clear hgs
      generalize madeS (st0 c n nc) (l.take j) = s at *
      generalize thAt l j = t at *
      obtain ⟨f, cl, gone⟩ := t
      simp only at hz0 hz1
      have HKP := Lib.hid (mk1_keep s (f, cl, gone))
      have HPU := Lib.hid (Rf.pu_of HLO.out.bo.is (by omega))
      obtain ⟨nf, hnf⟩ : ∃ v, IntKind.i64.wrap ((f : Int).tmod 16) = v := ⟨_, rfl⟩
      obtain ⟨nk, hnk⟩ : ∃ v, IntKind.i64.wrap ((cl : Int).tmod 2) = v := ⟨_, rfl⟩
      have e1 : thN (f, cl, gone) = nf := by
        rw [← hnf, thN, Int.tmod_eq_emod_of_nonneg (by omega), IntKind.wrap_i64]
        show (f : Int) % 16 = _
        omega
      have e2 : thC (f, cl, gone) = nk := by
        rw [← hnk, thC, Int.tmod_eq_emod_of_nonneg (by omega), IntKind.wrap_i64]
        show (cl : Int) % 2 = _
        omega
      have HT1 : Hid (mk1 s (f, cl, gone) = if mkE s nf nk = 0 then mkS s nf nk else s) := Lib.hid (by rw [mk1, e1, e2])
      have HT2 : Hid (thS s (f, cl, gone) = if mkE s nf nk = 0 ∧ gone = true then (if frE (mk1 s (f, cl, gone)) (mkW s nf nk) = 0 then frS (mk1 s (f, cl, gone)) (mkW s nf nk).toNat else mk1 s (f, cl, gone)) else mk1 s (f, cl, gone)) := Lib.hid (by rw [thS, e1, e2])
      clear e1 e2
      generalize mk1 s (f, cl, gone) = s2 at *
      have HK0 := Lib.hid (HCE.out (wr.drewN 1) (below_drewN HLO.out.bel 1))
      go_wp2
      go_region_held3 (fun W => W.cell? ⟨b, off + j * 3, none⟩ = some (.int .u8 f) ∧ W.cell? ⟨b, off + j * 3 + 1, none⟩ = some (.int .u8 cl))
        (first | exact HK0.out | exact S3)
        (first
          | (go_at_call 62; refine (Rf.hmake_any _ _ _ (HLO.out.bo.drewN 1).is (HLO.out.bo.drewN 1).tb (by omega)).mono ?_; rintro e w3 ⟨rfl, hT⟩; obtain ⟨d3, hB3⟩ := (HLO.out.bo.drewN 1).heap hT; have HB3 := Lib.hid hB3; have S3 := HCE.out w3 (hB3.below HLO.out.b0 HLO.out.g1 HLO.out.g2); clear hT hB3))
      rw [← HT1.out] at HB3
      have S3' := S3
      clear HK0 S3
      obtain ⟨ad, had⟩ : ∃ v, mkW s nf nk = v := ⟨_, rfl⟩
      obtain ⟨er, her⟩ : ∃ v, mkE s nf nk = v := ⟨_, rfl⟩
      have HMK := Lib.hid (fun (W : World) (h : Rp W M w1.heap.size i' s) => Rf.make_all nf nk W h HPU.out)
      rw [← HT1.out, had, her] at HMK
      have HK1 := Lib.hid (HCE.out (w3.drewN 1) (below_drewN (HB3.out.below HLO.out.b0 HLO.out.g1 HLO.out.g2) 1))
      rw [had, her]
      have hbw3 : Below w.heap.size w w3 := HB3.out.below HLO.out.b0 HLO.out.g1 HLO.out.g2
      obtain ⟨c0, c1⟩ := S3'
      have HCE3 := Lib.hid HCE.out
      clear hbw3
      go_wp2
      go_region_held3 (fun W => W.cell? ⟨b, off + j * 3, none⟩ = some (.int .u8 f) ∧ W.cell? ⟨b, off + j * 3 + 1, none⟩ = some (.int .u8 cl))
        (first | exact HK1.out | exact S4)
        (first
          | (go_at_call 123; refine (HMK.out _ (HB3.out.drewN 1).rp).mono ?_; rintro e w4 ⟨rfl, hT⟩; obtain ⟨i4, hB4⟩ := (HB3.out.drewN 1).ref hT; have HB4 := Lib.hid hB4; have S4 := HCE.out w4 (hB4.below HLO.out.b0 HLO.out.g1 HLO.out.g2); clear hT hB4))
      have hx2 := HC2.out w4 (HB4.out.below HLO.out.b0 HLO.out.g1 HLO.out.g2)
      have haa : (ad != ad) = false := by simp
      have hee : (er != er) = false := by simp
      clear HK1 S4 c0 c1 HB3 HCE3 HMK
      rw [had, her] at HT2
      rw [her] at HT1
      clear had her HT1
      by_cases he0 : er = 0
      · have be0 : (er == 0) = true := by rw [beq_iff_eq]; exact he0
        cases gone with
        | false =>
          have HE := Lib.hid (show s1 = s2 by rw [HS1.out, HT2.out, if_neg (fun h => by cases h.2)])
          go_wp2
          go_roundw
          case rel => exact ⟨j + 1, d3, m' + 160, i4, by omega, by omega, by go_num, by omega, by rw [HGS.out, HE.out]; exact ⟨HB4.out, HKP.out.1.trans HLO.out.hc, HKP.out.2.2.trans HLO.out.hn, HKP.out.2.1.trans HLO.out.hl, HB4.out.below HLO.out.b0 HLO.out.g1 HLO.out.g2, HLO.out.g1, HLO.out.g2, HLO.out.b0⟩⟩
          case measure => simp [intOf]; omega
        | true =>
          have HE := Lib.hid (show s1 = (if frE s2 ad = 0 then frS s2 ad.toNat else s2) by rw [HS1.out, HT2.out, if_pos ⟨he0, rfl⟩])
          have HPU2 := Lib.hid (Rf.pu_of HB4.out.is (by omega))
          have HKE : Hid (Keep s2 (if frE s2 ad = 0 then frS s2 ad.toNat else s2)) := Lib.hid (by
            split
            · exact frS_keep _ _
            · exact Keep.refl _)
          go_wp2_with fail
          refine (Hp.free_any ad w4 HB4.out.is HB4.out.tb (by omega)).mono ?_
          rintro e w5 ⟨rfl, hT⟩
          obtain ⟨d5, hB5⟩ := HB4.out.heap hT
          have HB5 := Lib.hid hB5
          clear hT hB5
          go_wp2_with fail
          refine (Rf.release_all ad w5 HB5.out.rp HPU2.out).mono ?_
          rintro e w6 ⟨rfl, hT⟩
          obtain ⟨i6, hB6⟩ := HB5.out.ref hT
          have HB6 := Lib.hid hB6
          clear hT hB6
          rw [← HE.out] at HB6 HKE
          go_wp2
          go_roundw
          case rel => exact ⟨j + 1, d5, m' + 160 + 1, i6, by omega, by omega, by go_num, by omega, by rw [HGS.out]; exact ⟨HB6.out, HKE.out.1.trans (HKP.out.1.trans HLO.out.hc), HKE.out.2.2.trans (HKP.out.2.2.trans HLO.out.hn), HKE.out.2.1.trans (HKP.out.2.1.trans HLO.out.hl), HB6.out.below HLO.out.b0 HLO.out.g1 HLO.out.g2, HLO.out.g1, HLO.out.g2, HLO.out.b0⟩⟩
          case measure => simp [intOf]; omega
      · have be0 : (er == 0) = false := by rw [beq_eq_false_iff_ne]; exact he0
        have HE := Lib.hid (show s1 = s2 by rw [HS1.out, HT2.out, if_neg (fun h => he0 h.1)])
        go_wp2
        go_roundw
        case rel => exact ⟨j + 1, d3, m' + 160, i4, by omega, by omega, by go_num, by omega, by rw [HGS.out, HE.out]; exact ⟨HB4.out, HKP.out.1.trans HLO.out.hc, HKP.out.2.2.trans HLO.out.hn, HKP.out.2.1.trans HLO.out.hl, HB4.out.below HLO.out.b0 HLO.out.g1 HLO.out.g2, HLO.out.g1, HLO.out.g2, HLO.out.b0⟩⟩
        case measure => simp [intOf]; omega
    · have htk : l.take j = l.take 40 := by
        by_cases h40 : j = 40
        · rw [h40]
        · rw [List.take_of_length_le (by omega), List.take_of_length_le (by omega)]
      have hfin := HLO.out
      rw [htk] at hfin
      have HF := Lib.hid hfin
      clear hfin htk HLO
      have hmm : m' ≤ 7000 := by omega
      by_cases hjl : j < l.length
      · have j1 : (j : Int) < (l.length : Int) := by omega
        have j2 : ¬ (j : Int) < 40 := by omega
        go_wp2
        go_ret2
        exact ⟨H, M, w1.heap.size, d', i', m', rfl, ⟨HF.out.bo.self, HF.out.bel, fun k hk => (HF.out.bo.inD k hk).elim (HF.out.g1 k) (fun x => by have := HF.out.b0.size; omega), fun k hk => (HF.out.bo.inI k hk).elim (HF.out.g2 k) (fun x => by have := HF.out.b0.size; omega), HF.out.hc, hmm, HBW.out.size⟩⟩
      · have j1 : ¬ (j : Int) < (l.length : Int) := by omega
        go_wp2
        go_ret2
        exact ⟨H, M, w1.heap.size, d', i', m', rfl, ⟨HF.out.bo.self, HF.out.bel, fun k hk => (HF.out.bo.inD k hk).elim (HF.out.g1 k) (fun x => by have := HF.out.b0.size; omega), fun k hk => (HF.out.bo.inI k hk).elim (HF.out.g2 k) (fun x => by have := HF.out.b0.size; omega), HF.out.hc, hmm, HBW.out.size⟩⟩
end Go.Proofs.YtkfgchhlekdpgaaGreatDoor.Sw

namespace Go.Proofs.YtkfgchhlekdpgaaGreatDoor.Sw
open Go.RowKit
open Blk (Cfg TbIs kAt seg seg_length perN allP allP_succ allP_len blk adr)
open Hp (Ids St Wf Is To Mine bnI bn coE coV frE frS colB holdsF own cls fr puS unS mkE mkS mkA st0)
open Rf (Rp RTo Pu Ri Sl All Bo Lo Keep mkW)
open Go.Proofs.YtkfgchhlekdpgaaGreatDoor.Row (Chg Rd Rd0 cell_of_block frozen_of_block other same rowB cellsZ cellsZ_length cellsZ_at cellsZ_snoc owns_lt owns_chg owns_slice owns_base owns_cap owns_block push_row info_parts infoInt one_at)
open Go.Proofs.YtkfgchhlekdpgaaGreatDoor.Addr (Tabs)

def exW : Cfg := ⟨1, 16, 1, 1, 0, 1, 1⟩
theorem exW_right : rightB exW.b exW.wd exW.m exW.r exW.ce exW.lg exW.st = true := by decide
def exL : List (Nat × Nat × Bool) := [(1, 0, false), (1, 1, false)]
def exS : St := madeS (st0 exW 16 0) (exL.take 40)
set_option maxRecDepth 200000 in
theorem ex_all : swF exS 1 (allP exS.c exS.ks exS.ks.length) = [1] ∧ (allP exS.c exS.ks exS.ks.length).length ≤ 1000 := by decide

/-- What sweeping turns lies above, if the heap does. -/
theorem Swept.below {w w1 w' : World} {H m' : Nat} {d : Ids} {s' : St} {l : List Int} {e : Ending} (h : Swept w1 H d s' m' l e w') (hb : Below w.heap.size w w1) (hg : ∀ k, Mine H d k → w.heap.size ≤ k) : Below w.heap.size w w' := by
  obtain ⟨d', po, co, _, _, _, h3, _⟩ := h
  exact hb.trans (h3.below hg hb.size)

end Go.Proofs.YtkfgchhlekdpgaaGreatDoor.Sw

namespace Go.Proofs.YtkfgchhlekdpgaaGreatDoor.Sw
open Go.RowKit
open Blk (Cfg TbIs kAt seg seg_length perN allP allP_succ allP_len blk adr little little_any little_right)
open Hp (Ids St Wf Is To Mine bnI bn coE coV frE frS colB holdsF own cls fr puS unS mkE mkS mkA st0)
open Rf (Rp RTo Pu Ri Sl All Bo Lo Keep mkW)
open Go.Proofs.YtkfgchhlekdpgaaGreatDoor.Row (Chg Rd Rd0 cell_of_block frozen_of_block other same rowB cellsZ cellsZ_length cellsZ_at cellsZ_snoc owns_lt owns_chg owns_slice owns_base owns_cap owns_block push_row info_parts infoInt one_at)
open Go.Proofs.YtkfgchhlekdpgaaGreatDoor.Addr (Tabs)

/-- Both, above what lay. -/
structure Lw (w wr : World) (H M base : Nat) (d : Ids) (i : Ri) (s r : St) (m : Nat) : Prop where
  bo : Bo wr H d M base i wr d s m i r
  bel : Below w.heap.size w wr
  g1 : ∀ k, Mine H d k → w.heap.size ≤ k
  g2 : ∀ k, All M i k → w.heap.size ≤ k
section
variable {w wr w' : World} {H M base m m' : Nat} {d d' : Ids} {i i' : Ri} {s s' r r' : St}
theorem Lw.later (h : Lw w wr H M base d i s r m) (hb : Below wr.heap.size wr w') : Lw w w' H M base d i s r m :=
  ⟨(h.bo.later hb).self, h.bel.trans (hb.mono h.bel.size), h.g1, h.g2⟩
theorem Lw.heap (h : Lw w wr H M base d i s r m) (g1 : Is w' H d' s' m') (g2 : Chg (Mine H d) wr w') (g3 : ∀ j, Mine H d' j → Mine H d j ∨ wr.heap.size ≤ j) : Lw w w' H M base d' i s' r m' := by
  have hs := h.bel.size
  exact ⟨⟨g1, h.bo.rp.chg g2 (fun k e e2 => h.bo.ap k e2 e), fun k e e2 => (g3 k e).elim (fun x => h.bo.ap k x e2) (fun x => by have := h.bo.rp.mem.ltA e2; omega), h.bo.is.tabs g2 h.bo.tb, h.bo.hi, Chg.refl _ _, fun _ e => .inl e, fun _ e => .inl e⟩,
    h.bel.trans (g2.below h.g1 hs), fun k e => (g3 k e).elim (h.g1 k) (fun x => by omega), h.g2⟩
theorem Lw.ref (h : Lw w wr H M base d i s r m) (g1 : Rp w' M base i' r') (g2 : Chg (All M i) wr w') (g3 : ∀ j, All M i' j → All M i j ∨ wr.heap.size ≤ j) : Lw w w' H M base d i' s r' m := by
  have hs := h.bel.size
  have hH := h.bo.is.hi H (.inr (.inl (.inl rfl)))
  have hHl := h.bo.is.ltH
  have hb : Below (max 1 0 + 1) wr w' := g2.below (fun k hk => by have := h.bo.hi k hk; omega) (by omega)
  exact ⟨⟨h.bo.is.chg g2 (fun k e e2 => h.bo.ap k e e2), g1, fun k e e2 => (g3 k e2).elim (fun x => h.bo.ap k e x) (fun x => by have := h.bo.is.lt e; omega), h.bo.tb.below hb (by omega) (by omega), fun k e => (g3 k e).elim (h.bo.hi k) (fun x => by omega), Chg.refl _ _, fun _ e => .inl e, fun _ e => .inl e⟩,
    h.bel.trans (g2.below h.g2 hs), h.g1, fun k e => (g3 k e).elim (h.g2 k) (fun x => by omega)⟩
/-- The same, told of what has turned since w1. -/
theorem Lw.bo' {w1 : World} {d0 : Ids} {i0 : Ri} (h : Lw w w1 H M base d0 i0 s r m) (h2 : Bo w1 H d0 M base i0 w' d' s' m' i' r') : Lw w w' H M base d' i' s' r' m' :=
  ⟨h2.self, h2.below h.bel h.g1 h.g2, fun k e => (h2.inD k e).elim (h.g1 k) (fun x => by have := h.bel.size; omega), fun k e => (h2.inI k e).elim (h.g2 k) (fun x => by have := h.bel.size; omega)⟩
end
theorem Mad.lw {w w1 w2 : World} {H M base m : Nat} {d : Ids} {i : Ri} {s : St} {c : Cfg} (h : Mad w1 w2 H M base d i s m c) (hb : Below w.heap.size w w1) : Lw w w2 H M base d i s s m :=
  ⟨h.bo, hb.trans (h.bel.mono hb.size), fun k e => Nat.le_trans hb.size (h.g1 k e), fun k e => Nat.le_trans hb.size (h.g2 k e)⟩
/-- What always holds of what is made of a small config. -/
structure Sm (s : St) (c : Cfg) : Prop where
  wp : Wp s
  b4 : s.c.b ≤ 4
  b1 : 1 ≤ s.c.b
  all : (allP s.c s.ks s.ks.length).length ≤ 1000
  ks : s.ks.length ≤ 4
theorem Mad.sm {w w2 : World} {H M base m : Nat} {d : Ids} {i : Ri} {s : St} {c : Cfg} (h : Mad w w2 H M base d i s m (little c)) : Sm s c := by
  have hb := Blk.little_b c
  have hwf := h.bo.is.wf
  have hf := hwf.full
  have hc := h.hc
  have hw := hwf.words
  have hwd := (Blk.slots_bd hwf.right).wd1
  have hwd0 := (Blk.slots_bd hwf.right).wd0
  rw [hc] at hf hw hwd hwd0
  have hb1 := hb.1
  have hb4 := hb.2
  have hks : s.ks.length ≤ 4 := by omega
  refine ⟨⟨hwf, Rf.pu_of h.bo.is (by have := h.hm; omega), h.bo.rp.k4, ?_⟩, by rw [hc]; exact hb4, by rw [hc]; exact hb1, ?_, hks⟩
  · have h2 := (Rf.words_wrap hwf).1
    have h3 : (little c).b * (little c).wd ≤ 4 * 256 := Int.mul_le_mul hb4 hwd (by omega) (by omega)
    omega
  · exact Nat.le_trans (allP_len _ _ _) (by omega)
theorem little_ce' (c : Cfg) : ∃ nc : Nat, (little c).ce = (nc : Int) ∧ nc ≤ 3 := Rf.little_ce c
theorem little_n' (c : Cfg) : ∃ n : Nat, (little c).b * (little c).wd = (n : Int) ∧ n ≤ 1048576 := Rf.little_n c
end Go.Proofs.YtkfgchhlekdpgaaGreatDoor.Sw
