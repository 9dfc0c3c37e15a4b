/-
  What comes in: rows of events, of cycles, of programs; the table of powers.
-/
import Derived.Test.YtodfkklkgcoddaaDoorSsG
import Derived.Test.YtodfkklkgcoddaaDoorLaw
import Derived.HandedShaped
import Derived.Shelf.Vars
import Derived.Test.YtodfkklkgcoddaaDoorCards
import Derived.Test.YtodfkklkgcoddaaDoorTie
import Derived.WideShapes
import Derived.Lib.SmallJoins
import Derived.Deep.Fields
import Derived.LaidMore
import Derived.Stop.Joined
import Derived.Stop.LaidErr
import Derived.Lay
import Derived.ChangeMaps5
import Derived.Deep.Slices
namespace Go.Proofs.YtodfkklkgcoddaaDoor.Ss
open Go.ChangeShapes Go.WideShapes Go.ChangeAt Go.RowKit Go.Joins Go.Deep

section
variable {H : Type} {enc : TypeId × Value → H} {w : World} {base : Nat} {spare : Nat → Bool} {held : Bool}
theorem in_of {z : Int} (h : (Lit.int .i64 z).wf = true) : inI z := by
  simp [Lit.wf, IntKind.min, IntKind.max, IntKind.bits, IntKind.signed] at h
  unfold inI; omega
instance : Inhabited Ev := ⟨ev0⟩
instance : Inhabited Cy := ⟨cy0⟩
/-- An event whose numbers fit. -/
def EvI (e : Ev) : Prop := inI e.pick ∧ inI e.who ∧ inI e.kind ∧ inI e.op ∧ inI e.code ∧ inI e.value
set_option maxRecDepth 100000 in
theorem ev_cells {fuel : Nat} {c0 c1 c2 c3 c4 c5 : Value} {x : DataW H × List MemPlace} (h : DataW.trod enc Tryd.prog w base spare held fuel 44 [c0, c1, c2, c3, c4, c5] = some x) : ∃ (z0 z1 z2 z3 z4 z5 : Int), c0 = .int .i64 z0 ∧ c1 = .int .i64 z1 ∧ c2 = .int .i64 z2 ∧ c3 = .int .i64 z3 ∧ c4 = .int .i64 z4 ∧ c5 = .int .i64 z5 ∧ inI z0 ∧ inI z1 ∧ inI z2 ∧ inI z3 ∧ inI z4 ∧ inI z5 := by
  have hc6 : Tryd.prog.cellsOf 3 = 1 := by kernel_rfl
  have hc7 : Tryd.prog.cellsOf 42 = 1 := by kernel_rfl
  obtain ⟨xs, n, _, hx, _, hlen, hg⟩ := DataW.trod_struct Tryd.underlying44 h
  match xs, hlen with
  | [y0, y1, y2, y3, y4, y5], _ =>
    obtain ⟨z0, e0, _, h0⟩ := DataW.trod_int Tryd.underlying3 (show DataW.trod enc _ _ _ _ _ _ 3 [c0] = some y0 by simpa [Value.cells, hc6, hc7] using hg 0 _ rfl)
    obtain ⟨z1, e1, _, h1⟩ := DataW.trod_int Tryd.underlying3 (show DataW.trod enc _ _ _ _ _ _ 3 [c1] = some y1 by simpa [Value.cells, hc6, hc7] using hg 1 _ rfl)
    obtain ⟨z2, e2, _, h2⟩ := DataW.trod_int Tryd.underlying3 (show DataW.trod enc _ _ _ _ _ _ 3 [c2] = some y2 by simpa [Value.cells, hc6, hc7] using hg 2 _ rfl)
    obtain ⟨z3, e3, _, h3⟩ := DataW.trod_int Tryd.underlying3 (show DataW.trod enc _ _ _ _ _ _ 3 [c3] = some y3 by simpa [Value.cells, hc6, hc7] using hg 3 _ rfl)
    obtain ⟨z4, e4, _, h4⟩ := DataW.trod_int Tryd.underlying42 (show DataW.trod enc _ _ _ _ _ _ 42 [c4] = some y4 by simpa [Value.cells, hc6, hc7] using hg 4 _ rfl)
    obtain ⟨z5, e5, _, h5⟩ := DataW.trod_int Tryd.underlying3 (show DataW.trod enc _ _ _ _ _ _ 3 [c5] = some y5 by simpa [Value.cells, hc6, hc7] using hg 5 _ rfl)
    simp only [List.cons.injEq, and_true] at e0 e1 e2 e3 e4 e5
    exact ⟨z0, z1, z2, z3, z4, z5, e0, e1, e2, e3, e4, e5, in_of h0, in_of h1, in_of h2, in_of h3, in_of h4, in_of h5⟩
set_option maxRecDepth 100000 in
theorem open_evs {r : Reach} {b0 : Nat} {v : Value} {d : DataW H} {p : List MemPlace} (hv : Value.okWide Tryd.prog w r b0 22 v) (h : DataW.Trod enc Tryd.prog w base spare held 22 v d p) :
    ∃ (a : Option Addr) (l : List Ev) (cap : Nat), v = .slice a l.length cap ∧ EvAt w a l ∧ l.length ≤ cap ∧ cap ≤ maxLen ∧ ∀ c ∈ l, EvI c := by
  have hC : Tryd.prog.cellsOf 44 = 6 := by kernel_rfl
  obtain ⟨a, len, cap, rfl⟩ := okWide_slice Tryd.underlying22 hv
  obtain ⟨fuel, hf⟩ := h
  rcases Deep.open_slice Tryd.underlying22 hf with ⟨hcs, _⟩ | ⟨a', len', cap', m, n, D, Pl, hcs, _, hl, hm, hmm, _, hx⟩
  · simp [Value.cells] at hcs
    obtain ⟨rfl, rfl, rfl⟩ := hcs
    exact ⟨none, [], 0, rfl, fun j hj => absurd hj (by simp), by simp, by simp, by simp⟩
  · simp [Value.cells] at hcs
    obtain ⟨rfl, rfl, rfl⟩ := hcs
    have each : ∀ i, i < len → ∃ q : Ev, (w.cell? (a'.add (i * 6)) = some (.int .i64 q.pick) ∧ w.cell? (a'.add (i * 6 + 1)) = some (.int .i64 q.who) ∧ w.cell? (a'.add (i * 6 + 2)) = some (.int .i64 q.kind) ∧ w.cell? (a'.add (i * 6 + 3)) = some (.int .i64 q.op) ∧ w.cell? (a'.add (i * 6 + 4)) = some (.int .i64 q.code) ∧ w.cell? (a'.add (i * 6 + 5)) = some (.int .i64 q.value)) ∧ EvI q := fun i hi => by
      obtain ⟨cs', h1, h2⟩ := hx i (by rw [hmm]; split <;> omega)
      rw [hC] at h1
      obtain ⟨_, hlen, hcell⟩ := World.cells?_some h1
      match cs', hlen with
      | [v0, v1, v2, v3, v4, v5], _ =>
        obtain ⟨x0, x1, x2, x3, x4, x5, rfl, rfl, rfl, rfl, rfl, rfl, i0, i1, i2, i3, i4, i5⟩ := ev_cells h2
        have e0 := hcell 0 (by omega)
        have e1 := hcell 1 (by omega)
        have e2 := hcell 2 (by omega)
        have e3 := hcell 3 (by omega)
        have e4 := hcell 4 (by omega)
        have e5 := hcell 5 (by omega)
        rw [Deep.add_add] at e0 e1 e2 e3 e4 e5
        exact ⟨⟨x0, x1, x2, x3, x4, x5⟩, ⟨by simpa using e0, by simpa using e1, by simpa using e2, by simpa using e3, by simpa using e4, by simpa using e5⟩, ⟨i0, i1, i2, i3, i4, i5⟩⟩
    obtain ⟨q, hq⟩ := Deep.choose_lt each
    refine ⟨some a', (List.range len).map q, cap, by simp, fun j hj => ?_, by simpa using hl, hm, fun c hc => ?_⟩
    · have hj' : j < len := by simpa using hj
      obtain ⟨c0, c1, c2, c3, c4, c5⟩ := (hq j hj').1
      obtain ⟨b, off, spot⟩ := a'
      have hspot : spot = none := by simpa [Addr.add] using World.cell?_spot (hq 0 (by omega)).1.1
      subst hspot
      rw [Go.WideShapes.add_plain] at c0 c1 c2 c3 c4 c5
      have hd : ((List.range len).map q).getD j ev0 = q j := by simp [hj', List.getD_eq_getElem?_getD]
      rw [hd]
      exact ⟨b, off, rfl, c0, by rw [Nat.add_assoc, c1], by rw [Nat.add_assoc, c2], by rw [Nat.add_assoc, c3], by rw [Nat.add_assoc, c4], by rw [Nat.add_assoc, c5]⟩
    · obtain ⟨j, hj, rfl⟩ := List.mem_map.1 hc
      exact (hq j (by simpa using hj)).2
set_option maxRecDepth 100000 in
theorem cy_cells {fuel : Nat} {c0 c1 c2 c3 c4 : Value} {x : DataW H × List MemPlace} (h : DataW.trod enc Tryd.prog w base spare held fuel 32 [c0, c1, c2, c3, c4] = some x) : ∃ (z0 z1 z2 z3 z4 : Int), c0 = .int .i64 z0 ∧ c1 = .int .i64 z1 ∧ c2 = .int .i64 z2 ∧ c3 = .int .i64 z3 ∧ c4 = .int .i64 z4 ∧ inI z0 ∧ inI z1 ∧ inI z2 ∧ inI z3 ∧ inI z4 := by
  have hc6 : Tryd.prog.cellsOf 3 = 1 := by kernel_rfl
  obtain ⟨xs, n, _, hx, _, hlen, hg⟩ := DataW.trod_struct Tryd.underlying32 h
  match xs, hlen with
  | [y0, y1, y2, y3, y4], _ =>
    obtain ⟨z0, e0, _, h0⟩ := DataW.trod_int Tryd.underlying3 (show DataW.trod enc _ _ _ _ _ _ 3 [c0] = some y0 by simpa [Value.cells, hc6] using hg 0 _ rfl)
    obtain ⟨z1, e1, _, h1⟩ := DataW.trod_int Tryd.underlying3 (show DataW.trod enc _ _ _ _ _ _ 3 [c1] = some y1 by simpa [Value.cells, hc6] using hg 1 _ rfl)
    obtain ⟨z2, e2, _, h2⟩ := DataW.trod_int Tryd.underlying3 (show DataW.trod enc _ _ _ _ _ _ 3 [c2] = some y2 by simpa [Value.cells, hc6] using hg 2 _ rfl)
    obtain ⟨z3, e3, _, h3⟩ := DataW.trod_int Tryd.underlying3 (show DataW.trod enc _ _ _ _ _ _ 3 [c3] = some y3 by simpa [Value.cells, hc6] using hg 3 _ rfl)
    obtain ⟨z4, e4, _, h4⟩ := DataW.trod_int Tryd.underlying3 (show DataW.trod enc _ _ _ _ _ _ 3 [c4] = some y4 by simpa [Value.cells, hc6] using hg 4 _ rfl)
    simp only [List.cons.injEq, and_true] at e0 e1 e2 e3 e4
    exact ⟨z0, z1, z2, z3, z4, e0, e1, e2, e3, e4, in_of h0, in_of h1, in_of h2, in_of h3, in_of h4⟩
set_option maxRecDepth 100000 in
theorem open_cys {r : Reach} {b0 : Nat} {v : Value} {d : DataW H} {p : List MemPlace} (hv : Value.okWide Tryd.prog w r b0 24 v) (h : DataW.Trod enc Tryd.prog w base spare held 24 v d p) :
    ∃ (a : Option Addr) (l : List Cy) (cap : Nat), v = .slice a l.length cap ∧ CyR w a l ∧ l.length ≤ cap ∧ cap ≤ maxLen ∧ ∀ c ∈ l, CyI c := by
  have hC : Tryd.prog.cellsOf 32 = 5 := by kernel_rfl
  obtain ⟨a, len, cap, rfl⟩ := okWide_slice Tryd.underlying24 hv
  obtain ⟨fuel, hf⟩ := h
  rcases Deep.open_slice Tryd.underlying24 hf with ⟨hcs, _⟩ | ⟨a', len', cap', m, n, D, Pl, hcs, _, hl, hm, hmm, _, hx⟩
  · simp [Value.cells] at hcs
    obtain ⟨rfl, rfl, rfl⟩ := hcs
    exact ⟨none, [], 0, rfl, fun j hj => absurd hj (by simp), by simp, by simp, by simp⟩
  · simp [Value.cells] at hcs
    obtain ⟨rfl, rfl, rfl⟩ := hcs
    have each : ∀ i, i < len → ∃ q : Cy, (w.cell? (a'.add (i * 5)) = some (.int .i64 q.num) ∧ w.cell? (a'.add (i * 5 + 1)) = some (.int .i64 q.start) ∧ w.cell? (a'.add (i * 5 + 2)) = some (.int .i64 q.marked) ∧ w.cell? (a'.add (i * 5 + 3)) = some (.int .i64 q.rested) ∧ w.cell? (a'.add (i * 5 + 4)) = some (.int .i64 q.freed)) ∧ CyI q := fun i hi => by
      obtain ⟨cs', h1, h2⟩ := hx i (by rw [hmm]; split <;> omega)
      rw [hC] at h1
      obtain ⟨_, hlen, hcell⟩ := World.cells?_some h1
      match cs', hlen with
      | [v0, v1, v2, v3, v4], _ =>
        obtain ⟨x0, x1, x2, x3, x4, rfl, rfl, rfl, rfl, rfl, i0, i1, i2, i3, i4⟩ := cy_cells h2
        have e0 := hcell 0 (by omega)
        have e1 := hcell 1 (by omega)
        have e2 := hcell 2 (by omega)
        have e3 := hcell 3 (by omega)
        have e4 := hcell 4 (by omega)
        rw [Deep.add_add] at e0 e1 e2 e3 e4
        exact ⟨⟨x0, x1, x2, x3, x4⟩, ⟨by simpa using e0, by simpa using e1, by simpa using e2, by simpa using e3, by simpa using e4⟩, ⟨i0, i1, i2, i3, i4⟩⟩
    obtain ⟨q, hq⟩ := Deep.choose_lt each
    refine ⟨some a', (List.range len).map q, cap, by simp, fun j hj => ?_, by simpa using hl, hm, fun c hc => ?_⟩
    · have hj' : j < len := by simpa using hj
      obtain ⟨c0, c1, c2, c3, c4⟩ := (hq j hj').1
      obtain ⟨b, off, spot⟩ := a'
      have hspot : spot = none := by simpa [Addr.add] using World.cell?_spot (hq 0 (by omega)).1.1
      subst hspot
      rw [Go.WideShapes.add_plain] at c0 c1 c2 c3 c4
      have hd : ((List.range len).map q).getD j cy0 = q j := by simp [hj', List.getD_eq_getElem?_getD]
      rw [hd]
      exact ⟨b, off, rfl, c0, by rw [Nat.add_assoc, c1], by rw [Nat.add_assoc, c2], by rw [Nat.add_assoc, c3], by rw [Nat.add_assoc, c4]⟩
    · obtain ⟨j, hj, rfl⟩ := List.mem_map.1 hc
      exact (hq j (by simpa using hj)).2
set_option maxRecDepth 100000 in
theorem op_kind {fuel : Nat} {c0 c1 c2 c3 : Value} {x : DataW H × List MemPlace} (h : DataW.trod enc Tryd.prog w base spare held fuel 47 [c0, c1, c2, c3] = some x) : ∃ k : Int, c0 = .int .i64 k := by
  have hc6 : Tryd.prog.cellsOf 3 = 1 := by kernel_rfl
  obtain ⟨xs, n, _, hx, _, hlen, hg⟩ := DataW.trod_struct Tryd.underlying47 h
  match xs, hlen with
  | [y0, y1, y2, y3], _ =>
    obtain ⟨k, e0, _⟩ := DataW.trod_int Tryd.underlying3 (show DataW.trod enc _ _ _ _ _ _ 3 [c0] = some y0 by simpa [Value.cells, hc6] using hg 0 _ rfl)
    simp only [List.cons.injEq, and_true] at e0
    exact ⟨k, e0⟩
set_option maxRecDepth 100000 in
theorem open_kinds {fuel : Nat} {v : Value} {x : DataW H × List MemPlace} (h : DataW.trod enc Tryd.prog w base spare held fuel 45 [v] = some x) :
    ∃ (a : Option Addr) (l : List Int) (cap : Nat), v = .slice a l.length cap ∧ KdAt w a l := by
  have hC : Tryd.prog.cellsOf 47 = 4 := by kernel_rfl
  rcases Deep.open_slice Tryd.underlying45 h with ⟨hcs, _⟩ | ⟨a', len, cap, m, n, D, Pl, hcs, _, hl, hm, hmm, _, hx⟩
  · simp only [List.cons.injEq, and_true] at hcs
    exact ⟨none, [], 0, hcs, fun j hj => absurd hj (by simp)⟩
  · simp only [List.cons.injEq, and_true] at hcs
    have each : ∀ i, i < len → ∃ q : Int, w.cell? (a'.add (i * 4)) = some (.int .i64 q) := fun i hi => by
      obtain ⟨cs', h1, h2⟩ := hx i (by rw [hmm]; split <;> omega)
      rw [hC] at h1
      obtain ⟨_, hlen, hcell⟩ := World.cells?_some h1
      match cs', hlen with
      | [v0, v1, v2, v3], _ =>
        obtain ⟨k, rfl⟩ := op_kind h2
        have e0 := hcell 0 (by omega)
        rw [Deep.add_add] at e0
        exact ⟨k, by simpa using e0⟩
    obtain ⟨q, hq⟩ := Deep.choose_lt each
    refine ⟨some a', (List.range len).map q, cap, by simpa using hcs, fun j hj => ?_⟩
    have hj' : j < len := by simpa using hj
    have c0 := hq j hj'
    obtain ⟨b, off, spot⟩ := a'
    have hspot : spot = none := by simpa [Addr.add] using World.cell?_spot (hq 0 (by omega))
    subst hspot
    rw [Go.WideShapes.add_plain] at c0
    exact ⟨b, off, rfl, by rw [c0]; simp [hj', List.getD_eq_getElem?_getD]⟩
set_option maxRecDepth 100000 in
theorem open_progs {r : Reach} {b0 : Nat} {v : Value} {d : DataW H} {p : List MemPlace} (hv : Value.okWide Tryd.prog w r b0 38 v) (h : DataW.Trod enc Tryd.prog w base spare held 38 v d p) :
    ∃ (a : Option Addr) (L : List (List Int)) (cap : Nat), v = .slice a L.length cap ∧ PrAt w a L ∧ L.length ≤ maxLen := by
  have hC : Tryd.prog.cellsOf 45 = 1 := by kernel_rfl
  obtain ⟨a, len, cap, rfl⟩ := okWide_slice Tryd.underlying38 hv
  obtain ⟨fuel, hf⟩ := h
  rcases Deep.open_slice1 Tryd.underlying38 hC hf with ⟨hcs, _⟩ | ⟨a', len', cap', m, n, V, D, Pl, hcs, _, hl, hm, hmm, _, hx⟩
  · simp [Value.cells] at hcs
    obtain ⟨rfl, rfl, rfl⟩ := hcs
    exact ⟨none, [], 0, rfl, fun j hj => absurd hj (by simp), by simp⟩
  · simp [Value.cells] at hcs
    obtain ⟨rfl, rfl, rfl⟩ := hcs
    have each : ∀ i, i < len → ∃ q : Option Addr × List Int × Nat, w.cell? (a'.add i) = some (.slice q.1 q.2.1.length q.2.2) ∧ KdAt w q.1 q.2.1 := fun i hi => by
      obtain ⟨h1, h2⟩ := hx i (by rw [hmm]; split <;> omega)
      obtain ⟨x, l, c, e, hk⟩ := open_kinds h2
      exact ⟨(x, l, c), by rw [h1, e], hk⟩
    obtain ⟨q, hq⟩ := Deep.choose_lt each
    refine ⟨some a', (List.range len).map fun i => (q i).2.1, cap, by simp, fun j hj => ?_, by simp; omega⟩
    have hj' : j < len := by simpa using hj
    obtain ⟨c0, hk⟩ := hq j hj'
    obtain ⟨b, off, spot⟩ := a'
    have hspot : spot = none := by simpa [Addr.add] using World.cell?_spot (hq 0 (by omega)).1
    subst hspot
    have hd : ((List.range len).map fun i => (q i).2.1).getD j [] = (q j).2.1 := by simp [hj', List.getD_eq_getElem?_getD]
    rw [hd]
    rw [Go.WideShapes.add_plain] at c0
    exact ⟨b, off, (q j).1, (q j).2.2, rfl, c0, hk⟩
end
theorem tPow : (Tryd.prog.globals[1]?).map (·.type) = some 86 := by kernel_rfl
theorem pow_of {W : World} {rest : List (String × DataW Unit)} (h : laidMet Tryd.prog (("internal/strconv.uint64pow10", Rows.laid_internal_strconv_uint64pow10) :: rest) W) : LibTab W := by
  have e : (Rows.laid_internal_strconv_uint64pow10 : DataW Unit) = Lib.tabData .u64 Lib.pow10Tab := by kernel_rfl
  rw [e] at h
  have hv := Lib.tabIs_of_head gPow tPow Tryd.underlying86 Tryd.underlying79 (by kernel_rfl) (by kernel_rfl) h
  refine ⟨hv, ?_⟩
  have hv2 := hv
  unfold Lib.TabIs World.var? at hv2
  rw [gPow] at hv2
  simp only [Option.bind_some] at hv2
  cases hg : W.heap[1]? with
  | none => rw [hg] at hv2; cases hv2
  | some o => exact (Array.getElem?_eq_some_iff.1 hg).1
end Go.Proofs.YtodfkklkgcoddaaDoor.Ss
