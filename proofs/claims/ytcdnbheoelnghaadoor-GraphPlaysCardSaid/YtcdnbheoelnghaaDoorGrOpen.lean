/-
  What comes in: deeds.
-/
import Derived.Test.YtcdnbheoelnghaaDoorOpOpen
import Derived.Test.YtcdnbheoelnghaaDoorGrM4
namespace Go.Proofs.YtcdnbheoelnghaaDoor.Gra
open Go.ChangeShapes Go.WideShapes Go.ChangeAt Go.RowKit Go.Joins Go.Deep Go.Proofs.YtcdnbheoelnghaaDoor.Opr

/-- A deed that came in: its mutator, its kind, its three numbers. -/
abbrev DQ := Int × Int × Int × Int × Int
def dq (l : List DQ) (j : Nat) : DQ := l.getD j (0, 0, 0, 0, 0)
/-- Deeds as they lie. -/
def DeedsAt (w : World) (p : Option Addr) (l : List DQ) : Prop := ∀ j, j < l.length → ∃ b off, p = some ⟨b, off, none⟩ ∧ w.cell? ⟨b, off + j * 5, none⟩ = some (.int .i64 (dq l j).1) ∧ w.cell? ⟨b, off + j * 5 + 1, none⟩ = some (.int .i64 (dq l j).2.1) ∧
  w.cell? ⟨b, off + j * 5 + 2, none⟩ = some (.int .i64 (dq l j).2.2.1) ∧ w.cell? ⟨b, off + j * 5 + 3, none⟩ = some (.int .i64 (dq l j).2.2.2.1) ∧ w.cell? ⟨b, off + j * 5 + 4, none⟩ = some (.int .i64 (dq l j).2.2.2.2)
theorem DeedsAt.later {w w' : World} {p : Option Addr} {l : List DQ} (h : DeedsAt w p l) (hb : Below w.heap.size w w') : DeedsAt w' p l := fun j hj => by
  obtain ⟨b, off, e, h0, h1, h2, h3, h4⟩ := h j hj
  have hl : b < w.heap.size := lt_of_cell h0
  exact ⟨b, off, e, (hb.cell (p := ⟨b, off + j * 5, none⟩) hl).trans h0, (hb.cell (p := ⟨b, off + j * 5 + 1, none⟩) hl).trans h1, (hb.cell (p := ⟨b, off + j * 5 + 2, none⟩) hl).trans h2, (hb.cell (p := ⟨b, off + j * 5 + 3, none⟩) hl).trans h3, (hb.cell (p := ⟨b, off + j * 5 + 4, none⟩) hl).trans h4⟩
section
variable {H : Type} {enc : TypeId × Value → H} {w : World} {base : Nat} {spare : Nat → Bool} {held : Bool}
set_option maxRecDepth 100000 in
theorem deed_cells {fuel : Nat} {c0 c1 c2 c3 c4 : Value} {x : DataW H × List MemPlace} (h : DataW.trod enc Tryd.prog w base spare held fuel 41 [c0, c1, c2, c3, c4] = some x) : ∃ (m k a b c : Int), c0 = .int .i64 m ∧ c1 = .int .i64 k ∧ c2 = .int .i64 a ∧ c3 = .int .i64 b ∧ c4 = .int .i64 c := by
  have hc6 : Tryd.prog.cellsOf 3 = 1 := by kernel_rfl
  have hc4 : Tryd.prog.cellsOf 39 = 4 := by kernel_rfl
  obtain ⟨xs, n, _, hx, _, hlen, hg⟩ := DataW.trod_struct Tryd.underlying41 h
  match xs, hlen with
  | [y0, y1], _ =>
    obtain ⟨m, e0, _⟩ := DataW.trod_int Tryd.underlying3 (show DataW.trod enc _ _ _ _ _ _ 3 [c0] = some y0 by simpa [Value.cells, hc6] using hg 0 _ rfl)
    obtain ⟨k, a, b, c, e1, e2, e3, e4⟩ := op_cells (show DataW.trod enc _ _ _ _ _ _ 39 [c1, c2, c3, c4] = some y1 by simpa [Value.cells, hc6, hc4] using hg 1 _ rfl)
    simp only [List.cons.injEq, and_true] at e0
    exact ⟨m, k, a, b, c, e0, e1, e2, e3, e4⟩
set_option maxRecDepth 100000 in
theorem open_deed {r : Reach} {b0 : Nat} {v : Value} {d : DataW H} {p : List MemPlace} (hv : Value.okWide Tryd.prog w r b0 41 v) (h : DataW.Trod enc Tryd.prog w base spare held 41 v d p) :
    ∃ m k a b c : Int, v = .agg #[.int .i64 m, .int .i64 k, .int .i64 a, .int .i64 b, .int .i64 c] := by
  obtain ⟨cs, rfl, hsz⟩ := okWide_struct Tryd.underlying41 hv
  have hC : Tryd.prog.cellsOf 41 = 5 := by kernel_rfl
  obtain ⟨l⟩ := cs
  obtain ⟨fuel, hf⟩ := h
  match l, hsz.trans hC with
  | [c0, c1, c2, c3, c4], _ =>
    obtain ⟨m, k, a, b, c, rfl, rfl, rfl, rfl, rfl⟩ := deed_cells (by simpa [Value.cells] using hf)
    exact ⟨m, k, a, b, c, rfl⟩
set_option maxRecDepth 100000 in
theorem open_deeds {r : Reach} {b0 : Nat} {v : Value} {d : DataW H} {p : List MemPlace} (hv : Value.okWide Tryd.prog w r b0 24 v) (h : DataW.Trod enc Tryd.prog w base spare held 24 v d p) :
    ∃ (a : Option Addr) (l : List DQ) (cap : Nat), v = .slice a l.length cap ∧ DeedsAt w a l ∧ l.length ≤ maxLen := by
  have hC : Tryd.prog.cellsOf 41 = 5 := by kernel_rfl
  obtain ⟨a, len, cap, rfl⟩ := okWide_slice Tryd.underlying24 hv
  obtain ⟨fuel, hf⟩ := h
  rcases Deep.open_slice Tryd.underlying24 hf with ⟨hcs, _⟩ | ⟨a', len', cap', m, n, D, Pl, hcs, _, hl, hm, hmm, _, hx⟩
  · simp [Value.cells] at hcs
    obtain ⟨rfl, rfl, rfl⟩ := hcs
    exact ⟨none, [], 0, rfl, fun j hj => absurd hj (by simp), by simp⟩
  · simp [Value.cells] at hcs
    obtain ⟨rfl, rfl, rfl⟩ := hcs
    have hlm : len ≤ m := by rw [hmm]; split <;> omega
    have each : ∀ i, i < len → ∃ q : DQ, w.cell? (a'.add (i * 5)) = some (.int .i64 q.1) ∧ w.cell? (a'.add (i * 5 + 1)) = some (.int .i64 q.2.1) ∧ w.cell? (a'.add (i * 5 + 2)) = some (.int .i64 q.2.2.1) ∧ w.cell? (a'.add (i * 5 + 3)) = some (.int .i64 q.2.2.2.1) ∧ w.cell? (a'.add (i * 5 + 4)) = some (.int .i64 q.2.2.2.2) := fun i hi => by
      obtain ⟨cs', h1, h2⟩ := hx i (by omega)
      rw [hC] at h1
      obtain ⟨_, hlen, hcell⟩ := World.cells?_some h1
      match cs', hlen with
      | [v0, v1, v2, v3, v4], _ =>
        obtain ⟨x, y, z, u, t, rfl, rfl, rfl, rfl, rfl⟩ := deed_cells h2
        have e0 := hcell 0 (by omega)
        have e1 := hcell 1 (by omega)
        have e2 := hcell 2 (by omega)
        have e3 := hcell 3 (by omega)
        have e4 := hcell 4 (by omega)
        rw [Deep.add_add] at e0 e1 e2 e3 e4
        exact ⟨(x, y, z, u, t), by simpa using e0, by simpa using e1, by simpa using e2, by simpa using e3, by simpa using e4⟩
    obtain ⟨q, hq⟩ := Deep.choose_lt each
    refine ⟨some a', (List.range len).map q, cap, by simp, fun j hj => ?_, by simp; omega⟩
    have hj' : j < len := by simpa using hj
    obtain ⟨c0, c1, c2, c3, c4⟩ := hq j hj'
    obtain ⟨b, off, spot⟩ := a'
    have hspot : spot = none := by simpa [Addr.add] using World.cell?_spot (hq 0 (by omega)).1
    subst hspot
    rw [Go.WideShapes.add_plain] at c0 c1 c2 c3 c4
    have hd : dq ((List.range len).map q) j = q j := by unfold dq; simp [hj', List.getD_eq_getElem?_getD]
    rw [hd]
    exact ⟨b, off, rfl, c0, by rw [Nat.add_assoc, c1], by rw [Nat.add_assoc, c2], by rw [Nat.add_assoc, c3], by rw [Nat.add_assoc, c4]⟩
end
end Go.Proofs.YtcdnbheoelnghaaDoor.Gra
