/-
  Opening what the law ArenaPlays is given: a row of what is stored and loaded, and one more.
-/
import Derived.Test.YtibnbbachoignaaArOpen
import Derived.Test.YtibnbbachoignaaArH
import Derived.Deep.Slices
namespace Go.Proofs.Ytibnbbachoignaa.Arena
open Go.ChangeShapes Go.WideShapes Go.ChangeAt Go.RowKit

section
variable {H : Type} {enc : TypeId × Value → H} {w : World} {base : Nat} {spare : Nat → Bool} {held : Bool}
/-- One of them, cell by cell. -/
theorem word_cells {fuel : Nat} {c0 c1 c2 : Value} {x : DataW H × List MemPlace} (h : DataW.trod enc Try.prog w base spare held fuel 25 [c0, c1, c2] = some x) : ∃ (a : Int) (b : Nat) (c : Bool), c0 = .int .i64 a ∧ c1 = .int .u64 b ∧ c2 = .bool c := by
  have hc3 : Try.prog.cellsOf 3 = 1 := by kernel_rfl
  have hc6 : Try.prog.cellsOf 23 = 1 := by kernel_rfl
  have hc4 : Try.prog.cellsOf 4 = 1 := by kernel_rfl
  obtain ⟨xs, n, _, hx, _, hlen, hg⟩ := DataW.trod_struct Try.underlying25 h
  match xs, hlen with
  | [y0, y1, y2], _ =>
    obtain ⟨a, e0, _⟩ := DataW.trod_int Try.underlying3 (show DataW.trod enc _ _ _ _ _ _ 3 [c0] = some y0 by simpa [Value.cells, hc3] using hg 0 _ rfl)
    obtain ⟨b, e1, _, w1⟩ := DataW.trod_int Try.underlying23 (show DataW.trod enc _ _ _ _ _ _ 23 [c1] = some y1 by simpa [Value.cells, hc6] using hg 1 _ rfl)
    obtain ⟨c, e2, _⟩ := DataW.trod_bool Try.underlying4 (show DataW.trod enc _ _ _ _ _ _ 4 [c2] = some y2 by simpa [Value.cells, hc4] using hg 2 _ rfl)
    simp only [List.cons.injEq, and_true] at e0 e1 e2
    have b1 := bounds_u64 w1
    obtain ⟨m, rfl⟩ := Int.eq_ofNat_of_zero_le b1.1
    exact ⟨a, m, c, e0, e1, e2⟩

theorem open_word {r : Reach} {b0 : Nat} {v : Value} {d : DataW H} {p : List MemPlace} (hv : Value.okWide Try.prog w r b0 25 v) (h : DataW.Trod enc Try.prog w base spare held 25 v d p) :
    ∃ (x : Int) (y : Nat) (z : Bool), v = .agg #[.int .i64 x, .int .u64 y, .bool z] := by
  obtain ⟨cs, rfl, hsz⟩ := okWide_struct Try.underlying25 hv
  have hC : Try.prog.cellsOf 25 = 3 := by kernel_rfl
  obtain ⟨l⟩ := cs
  obtain ⟨fuel, hf⟩ := h
  match l, hsz.trans hC with
  | [c0, c1, c2], _ =>
    obtain ⟨a, b, c, rfl, rfl, rfl⟩ := word_cells (show DataW.trod enc Try.prog w base spare held fuel 25 [c0, c1, c2] = some (d, p) by simpa [Value.cells] using hf)
    exact ⟨a, b, c, rfl⟩

theorem open_words {r : Reach} {b0 : Nat} {v : Value} {d : DataW H} {p : List MemPlace} (hv : Value.okWide Try.prog w r b0 22 v) (h : DataW.Trod enc Try.prog w base spare held 22 v d p) :
    ∃ (a : Option Addr) (l : List (Int × Nat × Bool)) (cap : Nat), v = .slice a l.length cap ∧ WordsP w.heap.size w a l ∧ l.length ≤ maxLen := by
  have hC : Try.prog.cellsOf 25 = 3 := by kernel_rfl
  obtain ⟨a, len, cap, rfl⟩ := okWide_slice Try.underlying22 hv
  obtain ⟨fuel, hf⟩ := h
  rcases Deep.open_slice Try.underlying22 hf with ⟨hcs, _⟩ | ⟨a', len', cap', m, n, D, Pl, hcs, _, hl, hm, hmm, _, hx⟩
  · simp [Value.cells] at hcs
    obtain ⟨rfl, rfl, rfl⟩ := hcs
    exact ⟨none, [], 0, rfl, fun j hj => absurd hj (by simp), by simp⟩
  · simp [Value.cells] at hcs
    obtain ⟨rfl, rfl, rfl⟩ := hcs
    have hlm : len ≤ m := by rw [hmm]; split <;> omega
    have each : ∀ i, i < len → ∃ q : Int × Nat × Bool, w.cell? (a'.add (i * 3)) = some (.int .i64 q.1) ∧ w.cell? (a'.add (i * 3 + 1)) = some (.int .u64 q.2.1) ∧ w.cell? (a'.add (i * 3 + 2)) = some (.bool q.2.2) := fun i hi => by
      obtain ⟨cs', h1, h2⟩ := hx i (by omega)
      rw [hC] at h1
      obtain ⟨_, hlen, hcell⟩ := World.cells?_some h1
      match cs', hlen with
      | [v0, v1, v2], _ =>
        obtain ⟨x, y, z, rfl, rfl, rfl⟩ := word_cells h2
        have e0 := hcell 0 (by omega)
        have e1 := hcell 1 (by omega)
        have e2 := hcell 2 (by omega)
        rw [Deep.add_add] at e0 e1 e2
        exact ⟨(x, y, z), by simpa using e0, by simpa using e1, by simpa using e2⟩
    obtain ⟨q, hq⟩ := Deep.choose_lt each
    refine ⟨some a', (List.range len).map q, cap, by simp, fun j hj => ?_, by simp; omega⟩
    have hj' : j < len := by simpa using hj
    obtain ⟨c0, c1, c2⟩ := hq j hj'
    obtain ⟨b, off, spot⟩ := a'
    have hspot : spot = none := by simpa [Addr.add] using World.cell?_spot (hq 0 (by omega)).1
    subst hspot
    rw [Go.WideShapes.add_plain] at c0 c1 c2
    refine ⟨b, off, rfl, World.block_lt_of_cell? w _ c0, ?_, ?_, ?_⟩
    · rw [c0]; simp [hj']
    · rw [Nat.add_assoc, c1]; simp [hj']
    · rw [Nat.add_assoc, c2]; simp [hj']
end
end Go.Proofs.Ytibnbbachoignaa.Arena
