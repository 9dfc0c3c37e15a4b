/-
  Events and cycles, plain and as they lie; what an event begins (begun).
-/
import Derived.Test.YtodfkklkgcoddaaDoorRowA
import Derived.Deep.LoopGhost
namespace Go.Proofs.YtodfkklkgcoddaaDoor.Ss
open Go.RowKit
open Go.Proofs.YtodfkklkgcoddaaDoor.Row

/-- An event. -/
structure Ev where
  pick : Int
  who : Int
  kind : Int
  op : Int
  code : Int
  value : Int
def ev0 : Ev := ⟨0, 0, 0, 0, 0, 0⟩
def Ev.agg (e : Ev) : Value := .agg #[.int .i64 e.pick, .int .i64 e.who, .int .i64 e.kind, .int .i64 e.op, .int .i64 e.code, .int .i64 e.value]
/-- A cycle. -/
structure Cy where
  num : Int
  start : Int
  marked : Int
  rested : Int
  freed : Int
def cy0 : Cy := ⟨0, 0, 0, 0, 0⟩
def Cy.agg (c : Cy) : Value := .agg #[.int .i64 c.num, .int .i64 c.start, .int .i64 c.marked, .int .i64 c.rested, .int .i64 c.freed]
/-- What is known of a cycle while what is behind its start is told. -/
structure Bs where
  m : Int
  r : Int
  f : Nat
  hm : Bool
  hr : Bool
def bs0 : Bs := ⟨-1, -1, 0, false, false⟩
def Bs.step (s : Bs) (e : Ev) : Bs :=
  if e.kind = 3 ∧ s.hm = false then { s with m := e.pick, hm := true }
  else if e.kind = 4 ∧ s.hr = false then { s with r := e.pick, hr := true }
  else if e.kind = 5 ∧ s.hr = false then { s with f := s.f + 1 } else s
def beh : Bs → List Ev → Bs
  | s, [] => s
  | s, e :: r => if e.kind = 2 then s else beh (s.step e) r
def cyOf (e : Ev) (s : Bs) : Cy := ⟨e.value, e.pick, s.m, s.r, s.f⟩
def cyc (e : Ev) (l : List Ev) : Cy := cyOf e (beh bs0 l)
def cycs : List Ev → List Cy
  | [] => []
  | e :: r => if e.kind = 2 then cyc e r :: cycs r else cycs r
theorem beh_cons (s : Bs) (e : Ev) (r : List Ev) : beh s (e :: r) = if e.kind = 2 then s else beh (s.step e) r := rfl
theorem cycs_cons (e : Ev) (r : List Ev) : cycs (e :: r) = if e.kind = 2 then cyc e r :: cycs r else cycs r := rfl
theorem cycs_le : ∀ l : List Ev, (cycs l).length ≤ l.length
  | [] => Nat.le_refl _
  | e :: r => by
    rw [cycs_cons]
    have := cycs_le r
    split <;> simp only [List.length_cons] <;> omega
theorem drop_at {l : List Ev} {i : Nat} (h : i < l.length) : l.drop i = l.getD i ev0 :: l.drop (i + 1) := by
  rw [List.drop_eq_getElem_cons h, List.getD_eq_getElem?_getD, List.getElem?_eq_getElem h]; rfl
/-- Events that can be read. -/
def EvAt (w : World) (p : Option Addr) (l : List Ev) : Prop := ∀ i, i < l.length → ∃ b off, p = some ⟨b, off, none⟩ ∧ w.cell? ⟨b, off + i * 6, none⟩ = some (.int .i64 (l.getD i ev0).pick) ∧
  w.cell? ⟨b, off + i * 6 + 1, none⟩ = some (.int .i64 (l.getD i ev0).who) ∧ w.cell? ⟨b, off + i * 6 + 2, none⟩ = some (.int .i64 (l.getD i ev0).kind) ∧ w.cell? ⟨b, off + i * 6 + 3, none⟩ = some (.int .i64 (l.getD i ev0).op) ∧
  w.cell? ⟨b, off + i * 6 + 4, none⟩ = some (.int .i64 (l.getD i ev0).code) ∧ w.cell? ⟨b, off + i * 6 + 5, none⟩ = some (.int .i64 (l.getD i ev0).value)
theorem lt_of_cell {w : World} {p : Addr} {v : Value} (h : w.cell? p = some v) : p.block < w.heap.size := World.block_lt_of_cell? w _ h
theorem EvAt.later {w w' : World} {p : Option Addr} {l : List Ev} (h : EvAt w p l) (hb : Below w.heap.size w w') : EvAt w' p l := fun i hi => by
  obtain ⟨b, off, e, c0, c1, c2, c3, c4, c5⟩ := h i hi
  exact ⟨b, off, e, (hb.cell (p := ⟨b, _, none⟩) (lt_of_cell c0)).trans c0, (hb.cell (p := ⟨b, _, none⟩) (lt_of_cell c1)).trans c1, (hb.cell (p := ⟨b, _, none⟩) (lt_of_cell c2)).trans c2,
    (hb.cell (p := ⟨b, _, none⟩) (lt_of_cell c3)).trans c3, (hb.cell (p := ⟨b, _, none⟩) (lt_of_cell c4)).trans c4, (hb.cell (p := ⟨b, _, none⟩) (lt_of_cell c5)).trans c5⟩
/-- What is behind the n-th. -/
theorem EvAt.drop {w : World} {b off : Nat} {l : List Ev} (h : EvAt w (some ⟨b, off, none⟩) l) (n : Nat) : EvAt w (some ⟨b, off + n * 6, none⟩) (l.drop n) := fun i hi => by
  rw [List.length_drop] at hi
  obtain ⟨b', off', e, c⟩ := h (n + i) (by omega)
  injection e with e
  injection e with e1 e2
  subst e1 e2
  have hg : (l.drop n).getD i ev0 = l.getD (n + i) ev0 := by simp [List.getD_eq_getElem?_getD]
  rw [hg]
  exact ⟨b, off + n * 6, rfl, by rw [show off + n * 6 + i * 6 = off + (n + i) * 6 by omega]; exact c⟩

/-- A cycle's cells in a block. -/
structure CyAt (w : World) (g : Nat) (num start : Int) (s : Bs) : Prop where
  c0 : w.cell? ⟨g, 0, none⟩ = some (.int .i64 num)
  c1 : w.cell? ⟨g, 1, none⟩ = some (.int .i64 start)
  c2 : w.cell? ⟨g, 2, none⟩ = some (.int .i64 s.m)
  c3 : w.cell? ⟨g, 3, none⟩ = some (.int .i64 s.r)
  c4 : w.cell? ⟨g, 4, none⟩ = some (.int .i64 s.f)
end Go.Proofs.YtodfkklkgcoddaaDoor.Ss
