/-
  A place, and two places, that came in.
-/
import Derived.Test.YtgmakcoodgpjlaaDoorLaidL
namespace Go.Proofs.YtgmakcoodgpjlaaDoor
open Go.ChangeShapes Go.WideShapes Go.ChangeAt Go.RowKit Go.Joins Go.Deep

section
variable {H : Type} {enc : TypeId × Value → H} {w : World} {base : Nat} {spare : Nat → Bool} {held : Bool}
/-- A place, cell by cell. -/
theorem place_cells {fuel : Nat} {c0 c1 c2 : Value} {x : DataW H × List MemPlace} (h : DataW.trod enc Tryd.prog w base spare held fuel 38 [c0, c1, c2] = some x) : ∃ a b c : Int, c0 = .int .i64 a ∧ c1 = .int .i64 b ∧ c2 = .int .i64 c := by
  have hc3 : Tryd.prog.cellsOf 3 = 1 := by kernel_rfl
  obtain ⟨xs, n, _, hx, _, hlen, hg⟩ := DataW.trod_struct Tryd.underlying38 h
  match xs, hlen with
  | [y0, y1, y2], _ =>
    obtain ⟨a, e0, _⟩ := DataW.trod_int Tryd.underlying3 (show DataW.trod enc _ _ _ _ _ _ 3 [c0] = some y0 by simpa [Value.cells, hc3] using hg 0 _ rfl)
    obtain ⟨b, e1, _⟩ := DataW.trod_int Tryd.underlying3 (show DataW.trod enc _ _ _ _ _ _ 3 [c1] = some y1 by simpa [Value.cells, hc3] using hg 1 _ rfl)
    obtain ⟨c, e2, _⟩ := DataW.trod_int Tryd.underlying3 (show DataW.trod enc _ _ _ _ _ _ 3 [c2] = some y2 by simpa [Value.cells, hc3] using hg 2 _ rfl)
    simp only [List.cons.injEq, and_true] at e0 e1 e2
    exact ⟨a, b, c, e0, e1, e2⟩

theorem open_place {r : Reach} {b0 : Nat} {v : Value} {d : DataW H} {p : List MemPlace} (hv : Value.okWide Tryd.prog w r b0 38 v) (h : DataW.Trod enc Tryd.prog w base spare held 38 v d p) :
    ∃ x y z : Int, v = .agg #[.int .i64 x, .int .i64 y, .int .i64 z] := by
  obtain ⟨cs, rfl, hsz⟩ := okWide_struct Tryd.underlying38 hv
  have hC : Tryd.prog.cellsOf 38 = 3 := by kernel_rfl
  obtain ⟨l⟩ := cs
  obtain ⟨fuel, hf⟩ := h
  match l, hsz.trans hC with
  | [c0, c1, c2], _ =>
    obtain ⟨a, b, c, rfl, rfl, rfl⟩ := place_cells (show DataW.trod enc Tryd.prog w base spare held fuel 38 [c0, c1, c2] = some (d, p) by simpa [Value.cells] using hf)
    exact ⟨a, b, c, rfl⟩

theorem open_places {r : Reach} {b0 : Nat} {v : Value} {d : DataW H} {p : List MemPlace} (hv : Value.okWide Tryd.prog w r b0 54 v) (h : DataW.Trod enc Tryd.prog w base spare held 54 v d p) :
    ∃ x y z x' y' z' : Int, v = .agg #[.int .i64 x, .int .i64 y, .int .i64 z, .int .i64 x', .int .i64 y', .int .i64 z'] := by
  have hu := Tryd.underlying54
  obtain ⟨cs, rfl, hsz⟩ : ∃ cs, v = .agg cs ∧ cs.size = Tryd.prog.cellsOf 54 := by
    simp only [Value.okWide, hu] at hv
    obtain ⟨cs, h1, h2, _⟩ := hv
    exact ⟨cs, h1, h2⟩
  have hC : Tryd.prog.cellsOf 54 = 6 := by kernel_rfl
  have hC3 : Tryd.prog.cellsOf 38 = 3 := by kernel_rfl
  obtain ⟨l⟩ := cs
  obtain ⟨fuel, hf⟩ := h
  obtain ⟨xs, n, _, _, _, hlen, hg⟩ := DataW.trod_array hu hf
  match l, hsz.trans hC with
  | [c0, c1, c2, c3, c4, c5], _ =>
    match xs, hlen with
    | [y0, y1], _ =>
      obtain ⟨a, b, c, rfl, rfl, rfl⟩ := place_cells (show DataW.trod enc _ _ _ _ _ _ 38 [c0, c1, c2] = some y0 by simpa [Value.cells, hC3] using hg 0 (by decide))
      obtain ⟨a', b', c', rfl, rfl, rfl⟩ := place_cells (show DataW.trod enc _ _ _ _ _ _ 38 [c3, c4, c5] = some y1 by simpa [Value.cells, hC3] using hg 1 (by decide))
      exact ⟨a, b, c, a', b', c', rfl⟩
end
end Go.Proofs.YtgmakcoodgpjlaaDoor
