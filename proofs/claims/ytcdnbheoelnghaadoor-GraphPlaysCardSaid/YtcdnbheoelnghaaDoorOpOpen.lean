/-
  What comes in: an operation, a config, two numbers, each within an int; a text; a row of operations.
-/
import Derived.Test.YtcdnbheoelnghaaDoorOpLaid
import Derived.ChangeMaps5
import Derived.Deep.Slices
namespace Go.Proofs.YtcdnbheoelnghaaDoor.Opr
open Go.ChangeShapes Go.WideShapes Go.ChangeAt Go.RowKit Go.Joins Go.Deep

section
variable {H : Type} {enc : TypeId × Value → H} {w : World} {base : Nat} {spare : Nat → Bool} {held : Bool}
theorem in_of {z : Int} (h : (Lit.int .i64 z).wf = true) : inI z := by
  simp [Lit.wf, IntKind.min, IntKind.max, IntKind.bits, IntKind.signed] at h
  unfold inI; omega
set_option maxRecDepth 100000 in
theorem open_op {r : Reach} {b0 : Nat} {v : Value} {d : DataW H} {p : List MemPlace} (hv : Value.okWide Tryd.prog w r b0 39 v) (h : DataW.Trod enc Tryd.prog w base spare held 39 v d p) :
    ∃ k a b c : Int, v = .agg #[.int .i64 k, .int .i64 a, .int .i64 b, .int .i64 c] ∧ inI k ∧ inI a ∧ inI b ∧ inI c := by
  obtain ⟨cs, rfl, hsz⟩ := okWide_struct Tryd.underlying39 hv
  have hC : Tryd.prog.cellsOf 39 = 4 := by kernel_rfl
  have hc3 : Tryd.prog.cellsOf 3 = 1 := by kernel_rfl
  obtain ⟨l⟩ := cs
  obtain ⟨fuel, hf⟩ := h
  obtain ⟨xs, n, _, hx, _, hlen, hg⟩ := DataW.trod_struct Tryd.underlying39 hf
  match l, hsz.trans hC with
  | [c0, c1, c2, c3], _ =>
    match xs, hlen with
    | [y0, y1, y2, y3], _ =>
      obtain ⟨k, e0, _, h0⟩ := DataW.trod_int Tryd.underlying3 (show DataW.trod enc _ _ _ _ _ _ 3 [c0] = some y0 by simpa [Value.cells, hc3] using hg 0 _ rfl)
      obtain ⟨a, e1, _, h1⟩ := DataW.trod_int Tryd.underlying3 (show DataW.trod enc _ _ _ _ _ _ 3 [c1] = some y1 by simpa [Value.cells, hc3] using hg 1 _ rfl)
      obtain ⟨b, e2, _, h2⟩ := DataW.trod_int Tryd.underlying3 (show DataW.trod enc _ _ _ _ _ _ 3 [c2] = some y2 by simpa [Value.cells, hc3] using hg 2 _ rfl)
      obtain ⟨c, e3, _, h3⟩ := DataW.trod_int Tryd.underlying3 (show DataW.trod enc _ _ _ _ _ _ 3 [c3] = some y3 by simpa [Value.cells, hc3] using hg 3 _ rfl)
      simp only [List.cons.injEq, and_true] at e0 e1 e2 e3
      subst e0 e1 e2 e3
      exact ⟨k, a, b, c, rfl, in_of h0, in_of h1, in_of h2, in_of h3⟩
set_option maxRecDepth 100000 in
theorem open_cfgI {r : Reach} {b0 : Nat} {v : Value} {d : DataW H} {p : List MemPlace} (hv : Value.okWide Tryd.prog w r b0 23 v) (h : DataW.Trod enc Tryd.prog w base spare held 23 v d p) :
    ∃ b wd m r ce lg st : Int, v = .agg #[.int .i64 b, .int .i64 wd, .int .i64 m, .int .i64 r, .int .i64 ce, .int .i64 lg, .int .i64 st] ∧ inI r ∧ inI ce := by
  obtain ⟨cs, rfl, hsz⟩ := okWide_struct Tryd.underlying23 hv
  have hC : Tryd.prog.cellsOf 23 = 7 := by kernel_rfl
  have hc3 : Tryd.prog.cellsOf 3 = 1 := by kernel_rfl
  obtain ⟨l⟩ := cs
  obtain ⟨fuel, hf⟩ := h
  obtain ⟨xs, n, _, hx, _, hlen, hg⟩ := DataW.trod_struct Tryd.underlying23 hf
  match l, hsz.trans hC with
  | [c0, c1, c2, c3, c4, c5, c6], _ =>
    match xs, hlen with
    | [y0, y1, y2, y3, y4, y5, y6], _ =>
      obtain ⟨b, e0, _⟩ := DataW.trod_int Tryd.underlying3 (show DataW.trod enc _ _ _ _ _ _ 3 [c0] = some y0 by simpa [Value.cells, hc3] using hg 0 _ rfl)
      obtain ⟨wd, e1, _⟩ := DataW.trod_int Tryd.underlying3 (show DataW.trod enc _ _ _ _ _ _ 3 [c1] = some y1 by simpa [Value.cells, hc3] using hg 1 _ rfl)
      obtain ⟨m, e2, _⟩ := DataW.trod_int Tryd.underlying3 (show DataW.trod enc _ _ _ _ _ _ 3 [c2] = some y2 by simpa [Value.cells, hc3] using hg 2 _ rfl)
      obtain ⟨r, e3, _, h3⟩ := DataW.trod_int Tryd.underlying3 (show DataW.trod enc _ _ _ _ _ _ 3 [c3] = some y3 by simpa [Value.cells, hc3] using hg 3 _ rfl)
      obtain ⟨ce, e4, _, h4⟩ := DataW.trod_int Tryd.underlying3 (show DataW.trod enc _ _ _ _ _ _ 3 [c4] = some y4 by simpa [Value.cells, hc3] using hg 4 _ rfl)
      obtain ⟨lg, e5, _⟩ := DataW.trod_int Tryd.underlying3 (show DataW.trod enc _ _ _ _ _ _ 3 [c5] = some y5 by simpa [Value.cells, hc3] using hg 5 _ rfl)
      obtain ⟨st, e6, _⟩ := DataW.trod_int Tryd.underlying3 (show DataW.trod enc _ _ _ _ _ _ 3 [c6] = some y6 by simpa [Value.cells, hc3] using hg 6 _ rfl)
      simp only [List.cons.injEq, and_true] at e0 e1 e2 e3 e4 e5 e6
      subst e0 e1 e2 e3 e4 e5 e6
      exact ⟨b, wd, m, r, ce, lg, st, rfl, in_of h3, in_of h4⟩
set_option maxRecDepth 100000 in
theorem open_twoI {r : Reach} {b0 : Nat} {v : Value} {d : DataW H} {p : List MemPlace} (hv : Value.okWide Tryd.prog w r b0 54 v) (h : DataW.Trod enc Tryd.prog w base spare held 54 v d p) :
    ∃ x y : Int, v = .agg #[.int .i64 x, .int .i64 y] ∧ inI x ∧ inI y := by
  have hu := Tryd.underlying54
  obtain ⟨cs, rfl, hsz⟩ : ∃ cs, v = .agg cs ∧ cs.size = Tryd.prog.cellsOf 54 := by
    simp only [Value.okWide, hu] at hv
    obtain ⟨cs, h1, h2, _⟩ := hv
    exact ⟨cs, h1, h2⟩
  have hC : Tryd.prog.cellsOf 54 = 2 := by kernel_rfl
  have hc3 : Tryd.prog.cellsOf 3 = 1 := by kernel_rfl
  obtain ⟨l⟩ := cs
  obtain ⟨fuel, hf⟩ := h
  obtain ⟨xs, n, _, hx, _, hlen, hg⟩ := DataW.trod_array Tryd.underlying54 hf
  match l, hsz.trans hC with
  | [c0, c1], _ =>
    match xs, hlen with
    | [y0, y1], _ =>
      obtain ⟨x, e0, _, h0⟩ := DataW.trod_int Tryd.underlying3 (show DataW.trod enc _ _ _ _ _ _ 3 [c0] = some y0 by simpa [Value.cells, hc3] using hg 0 (by omega))
      obtain ⟨y, e1, _, h1⟩ := DataW.trod_int Tryd.underlying3 (show DataW.trod enc _ _ _ _ _ _ 3 [c1] = some y1 by simpa [Value.cells, hc3] using hg 1 (by omega))
      simp only [List.cons.injEq, and_true] at e0 e1
      subst e0 e1
      exact ⟨x, y, rfl, in_of h0, in_of h1⟩
set_option maxRecDepth 100000 in
theorem open_str {r : Reach} {b0 : Nat} {v : Value} {d : DataW H} {p : List MemPlace} (hv : Value.okWide Tryd.prog w r b0 9 v) (h : DataW.Trod enc Tryd.prog w base spare held 9 v d p) : ∃ s : ByteArray, v = .string s ∧ True := by
  obtain ⟨s, e, _⟩ := Go.ChangeMaps.open_string Tryd.underlying9 hv h
  exact ⟨s, e, trivial⟩
set_option maxRecDepth 100000 in
/-- One operation, cell by cell. -/
theorem op_cells {fuel : Nat} {c0 c1 c2 c3 : Value} {x : DataW H × List MemPlace} (h : DataW.trod enc Tryd.prog w base spare held fuel 39 [c0, c1, c2, c3] = some x) : ∃ (k a b c : Int), c0 = .int .i64 k ∧ c1 = .int .i64 a ∧ c2 = .int .i64 b ∧ c3 = .int .i64 c := by
  have hc6 : Tryd.prog.cellsOf 3 = 1 := by kernel_rfl
  obtain ⟨xs, n, _, hx, _, hlen, hg⟩ := DataW.trod_struct Tryd.underlying39 h
  match xs, hlen with
  | [y0, y1, y2, y3], _ =>
    obtain ⟨k, e0, _⟩ := DataW.trod_int Tryd.underlying3 (show DataW.trod enc _ _ _ _ _ _ 3 [c0] = some y0 by simpa [Value.cells, hc6] using hg 0 _ rfl)
    obtain ⟨a, e1, _⟩ := DataW.trod_int Tryd.underlying3 (show DataW.trod enc _ _ _ _ _ _ 3 [c1] = some y1 by simpa [Value.cells, hc6] using hg 1 _ rfl)
    obtain ⟨b, e2, _⟩ := DataW.trod_int Tryd.underlying3 (show DataW.trod enc _ _ _ _ _ _ 3 [c2] = some y2 by simpa [Value.cells, hc6] using hg 2 _ rfl)
    obtain ⟨c, e3, _⟩ := DataW.trod_int Tryd.underlying3 (show DataW.trod enc _ _ _ _ _ _ 3 [c3] = some y3 by simpa [Value.cells, hc6] using hg 3 _ rfl)
    simp only [List.cons.injEq, and_true] at e0 e1 e2 e3
    exact ⟨k, a, b, c, e0, e1, e2, e3⟩
end
end Go.Proofs.YtcdnbheoelnghaaDoor.Opr
