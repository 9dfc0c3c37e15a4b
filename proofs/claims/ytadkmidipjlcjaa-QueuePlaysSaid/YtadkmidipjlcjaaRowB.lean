/-
  Rows of numbers that are read, wherever they lie; slices.Clone, and the reference's Same.
-/
import Derived.Test.YtadkmidipjlcjaaRowA
namespace Go.Proofs.Ytadkmidipjlcjaa.Row
open Go.RowKit
attribute [local go_sem] Oper.semAt_some

/-- A row of numbers reads so. -/
def Rd (w : World) (p : Option Addr) (l : List Int) : Prop := (p = none ∧ l = []) ∨ ∃ g off, p = some ⟨g, off, none⟩ ∧ ∀ j, j < l.length → w.cell? ⟨g, off + j, none⟩ = some (.int .i64 (l.getD j 0))
theorem Rd.nil (w : World) : Rd w none [] := .inl ⟨rfl, rfl⟩
theorem Rd.kept {w w' : World} {p : Option Addr} {l : List Int} (h : Rd w p l) (hg : ∀ g, rowB p g → 0 < l.length → w'.heap[g]? = w.heap[g]?) : Rd w' p l :=
  h.imp id fun ⟨g, off, e, hc⟩ => ⟨g, off, e, fun j hj => (cell_of_block (a := ⟨g, off + j, none⟩) (hg g (by rw [e]; rfl) (by omega))).trans (hc j hj)⟩
theorem Rd.lt {w : World} {p : Option Addr} {l : List Int} (h : Rd w p l) {g : Nat} (hg : rowB p g) (hl : 0 < l.length) : g < w.heap.size := by
  rcases h with ⟨_, rfl⟩ | ⟨g', off, rfl, hc⟩
  · simp at hl
  · cases hg
    exact World.block_lt_of_cell? w _ (hc 0 hl)
theorem Rd.later {w w' : World} {p : Option Addr} {l : List Int} (h : Rd w p l) (hb : Below w.heap.size w w') : Rd w' p l := h.kept fun g hg hl => hb.block g (h.lt hg hl)
theorem Rd.chg {S : Nat → Prop} {w w' : World} {p : Option Addr} {l : List Int} (h : Rd w p l) (hc : Chg S w w') (hS : ∀ g, rowB p g → ¬ S g) : Rd w' p l := h.kept fun g hg hl => hc.block g (h.lt hg hl) (hS g hg)
theorem Rd.drewN {w : World} {p : Option Addr} {l : List Int} (h : Rd w p l) (n : Nat) : Rd (w.drewN n) p l := h.kept fun _ _ _ => rfl
theorem Rd.of_owns {w : World} {base cap : Nat} {p : Option Addr} {l : List Int} (h : w.ownsRow base 3 1 (.slice p l.length cap) l.length (cellsZ l)) : Rd w p l := by
  have h' := h
  obtain ⟨_, ⟨h2, h3⟩ | ⟨g, c, cur, e1, r⟩⟩ := h
  · obtain rfl := List.eq_nil_of_length_eq_zero h3
    cases h2
    exact .inl ⟨rfl, rfl⟩
  · cases e1
    exact .inr ⟨g, 0, rfl, fun j hj => by rw [Nat.zero_add]; exact owns_cell h' j _ (cellsZ_at l hj)⟩
theorem Rd.at {w : World} {p : Option Addr} {l : List Int} (h : Rd w p l) {j : Nat} (hj : j < l.length) : ∃ g off, p = some ⟨g, off, none⟩ ∧ w.cell? ⟨g, off + j, none⟩ = some (.int .i64 (l.getD j 0)) := by
  rcases h with ⟨_, rfl⟩ | ⟨g, off, e, hc⟩
  · simp at hj
  · exact ⟨g, off, e, hc j hj⟩

/-- Each number of a row reads so. -/
def Rd0 (w : World) (p : Option Addr) (l : List Int) : Prop := ∀ j, j < l.length → ∃ g off, p = some ⟨g, off, none⟩ ∧ w.cell? ⟨g, off + j, none⟩ = some (.int .i64 (l.getD j 0))
theorem Rd.rd0 {w : World} {p : Option Addr} {l : List Int} (h : Rd w p l) : Rd0 w p l := fun _ hj => h.at hj
end Go.Proofs.Ytadkmidipjlcjaa.Row
