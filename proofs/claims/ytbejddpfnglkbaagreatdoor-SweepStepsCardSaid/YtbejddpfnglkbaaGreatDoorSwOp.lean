/-
  Opening what a law of layer 13 is given: things, two numbers, three bytes.
-/
import Derived.Test.YtbejddpfnglkbaaGreatDoorSwI
import Derived.SizedLaws
import Derived.Deep.Slices
namespace Go.Proofs.YtbejddpfnglkbaaGreatDoor.Sw
open Go.ChangeShapes Go.WideShapes Go.ChangeAt Go.RowKit

section
variable {H : Type} {enc : TypeId × Value → H} {w : World} {base : Nat} {spare : Nat → Bool} {held : Bool}
set_option maxRecDepth 100000 in
/-- One thing, cell by cell. -/
theorem thing_cells {fuel : Nat} {c0 c1 c2 : Value} {x : DataW H × List MemPlace} (h : DataW.trod enc Tryz.prog w base spare held fuel 69 [c0, c1, c2] = some x) : ∃ (a b : Nat) (g : Bool), c0 = .int .u8 a ∧ c1 = .int .u8 b ∧ c2 = .bool g ∧ a < 256 ∧ b < 256 := by
  have hc5 : Tryz.prog.cellsOf 5 = 1 := by kernel_rfl
  have hc6 : Tryz.prog.cellsOf 4 = 1 := by kernel_rfl
  obtain ⟨xs, n, _, hx, _, hlen, hg⟩ := DataW.trod_struct Tryz.underlying69 h
  match xs, hlen with
  | [y0, y1, y2], _ =>
    obtain ⟨k, e0, hk⟩ := DataW.trod_int Tryz.underlying5 (show DataW.trod enc _ _ _ _ _ _ 5 [c0] = some y0 by simpa [Value.cells, hc5, hc6] using hg 0 _ rfl)
    obtain ⟨a, e1, ha⟩ := DataW.trod_int Tryz.underlying5 (show DataW.trod enc _ _ _ _ _ _ 5 [c1] = some y1 by simpa [Value.cells, hc5, hc6] using hg 1 _ rfl)
    obtain ⟨b, e2, _⟩ := DataW.trod_bool Tryz.underlying4 (show DataW.trod enc _ _ _ _ _ _ 4 [c2] = some y2 by simpa [Value.cells, hc5, hc6] using hg 2 _ rfl)
    simp only [List.cons.injEq, and_true] at e0 e1 e2
    have hb := bounds_u8 hk.2
    have hb2 := bounds_u8 ha.2
    exact ⟨k.toNat, a.toNat, b, by rw [Int.toNat_of_nonneg hb.1]; exact e0, by rw [Int.toNat_of_nonneg hb2.1]; exact e1, e2, by omega, by omega⟩
set_option maxRecDepth 100000 in
theorem open_things {r : Reach} {b0 : Nat} {v : Value} {d : DataW H} {p : List MemPlace} (hv : Value.okWide Tryz.prog w r b0 24 v) (h : DataW.Trod enc Tryz.prog w base spare held 24 v d p) :
    ∃ (a : Option Addr) (l : List (Nat × Nat × Bool)) (cap : Nat), v = .slice a l.length cap ∧ ThingsP w.heap.size w a l ∧ l.length ≤ maxLen := by
  have hC : Tryz.prog.cellsOf 69 = 3 := by kernel_rfl
  obtain ⟨a, len, cap, rfl⟩ := okWide_slice Tryz.underlying24 hv
  obtain ⟨fuel, hf⟩ := h
  rcases Deep.open_slice Tryz.underlying24 hf with ⟨hcs, _⟩ | ⟨a', len', cap', m, n, D, Pl, hcs, _, hl, hm, hmm, _, hx⟩
  · simp [Value.cells] at hcs
    obtain ⟨rfl, rfl, rfl⟩ := hcs
    exact ⟨none, [], 0, rfl, fun j hj => absurd hj (by simp), by simp⟩
  · simp [Value.cells] at hcs
    obtain ⟨rfl, rfl, rfl⟩ := hcs
    have hlm : len ≤ m := by rw [hmm]; split <;> omega
    have each : ∀ i, i < len → ∃ q : Nat × Nat × Bool, w.cell? (a'.add (i * 3)) = some (.int .u8 q.1) ∧ w.cell? (a'.add (i * 3 + 1)) = some (.int .u8 q.2.1) ∧ w.cell? (a'.add (i * 3 + 2)) = some (.bool q.2.2) ∧ q.1 < 256 ∧ q.2.1 < 256 := fun i hi => by
      obtain ⟨cs', h1, h2⟩ := hx i (by omega)
      rw [hC] at h1
      obtain ⟨_, hlen, hcell⟩ := World.cells?_some h1
      match cs', hlen with
      | [v0, v1, v2], _ =>
        obtain ⟨x, y, z, rfl, rfl, rfl, hxb, hyb⟩ := thing_cells h2
        have e0 := hcell 0 (by omega)
        have e1 := hcell 1 (by omega)
        have e2 := hcell 2 (by omega)
        rw [Deep.add_add] at e0 e1 e2
        exact ⟨(x, y, z), by simpa using e0, by simpa using e1, by simpa using e2, hxb, hyb⟩
    obtain ⟨q, hq⟩ := Deep.choose_lt each
    refine ⟨some a', (List.range len).map q, cap, by simp, fun j hj => ?_, by simp; omega⟩
    have hj' : j < len := by simpa using hj
    obtain ⟨c0, c1, c2, c3⟩ := hq j hj'
    obtain ⟨b, off, spot⟩ := a'
    have hspot : spot = none := by simpa [Addr.add] using World.cell?_spot (hq 0 (by omega)).1
    subst hspot
    rw [Go.WideShapes.add_plain] at c0 c1 c2
    have hd : thAt ((List.range len).map q) j = q j := by unfold thAt; simp [hj', List.getD_eq_getElem?_getD]
    rw [hd]
    exact ⟨b, off, rfl, World.block_lt_of_cell? w _ c0, c0, by rw [Nat.add_assoc, c1], by rw [Nat.add_assoc, c2], c3⟩
set_option maxRecDepth 100000 in
/-- Two numbers that came in. -/
theorem open_two {r : Reach} {b0 : Nat} {v : Value} {d : DataW H} {p : List MemPlace} (hv : Value.okWide Tryz.prog w r b0 25 v) (h : DataW.Trod enc Tryz.prog w base spare held 25 v d p) :
    ∃ m n : Int, v = .agg #[.int .i64 m, .int .i64 n] := by
  have hu := Tryz.underlying25
  have cI : Tryz.prog.cellsOf 3 = 1 := by kernel_rfl
  obtain ⟨cs, rfl, hsz⟩ : ∃ cs, v = .agg cs ∧ cs.size = Tryz.prog.cellsOf 25 := by
    simp only [Value.okWide, hu] at hv
    obtain ⟨cs, h1, h2, _⟩ := hv
    exact ⟨cs, h1, h2⟩
  have hC : Tryz.prog.cellsOf 25 = 2 := by kernel_rfl
  obtain ⟨l⟩ := cs
  obtain ⟨fuel, hf⟩ := h
  obtain ⟨xs, n, _, _, _, hlen, hg⟩ := DataW.trod_array hu hf
  match l, hsz.trans hC with
  | [c0, c1], _ =>
    match xs, hlen with
    | [y0, y1], _ =>
      obtain ⟨a, e0, _⟩ := DataW.trod_int Tryz.underlying3 (show DataW.trod enc _ _ _ _ _ _ 3 [c0] = some y0 by simpa [Value.cells, cI] using hg 0 (by decide))
      obtain ⟨b, e1, _⟩ := DataW.trod_int Tryz.underlying3 (show DataW.trod enc _ _ _ _ _ _ 3 [c1] = some y1 by simpa [Value.cells, cI] using hg 1 (by decide))
      simp only [List.cons.injEq, and_true] at e0 e1
      subst e0 e1
      exact ⟨a, b, rfl⟩
set_option maxRecDepth 100000 in
/-- Three bytes that came in. -/
theorem open_tri8 {r : Reach} {b0 : Nat} {v : Value} {d : DataW H} {p : List MemPlace} (hv : Value.okWide Tryz.prog w r b0 44 v) (h : DataW.Trod enc Tryz.prog w base spare held 44 v d p) :
    ∃ m n o : Nat, v = .agg #[.int .u8 m, .int .u8 n, .int .u8 o] ∧ m < 256 ∧ n < 256 ∧ o < 256 := by
  have hu := Tryz.underlying44
  have cI : Tryz.prog.cellsOf 5 = 1 := by kernel_rfl
  obtain ⟨cs, rfl, hsz⟩ : ∃ cs, v = .agg cs ∧ cs.size = Tryz.prog.cellsOf 44 := by
    simp only [Value.okWide, hu] at hv
    obtain ⟨cs, h1, h2, _⟩ := hv
    exact ⟨cs, h1, h2⟩
  have hC : Tryz.prog.cellsOf 44 = 3 := by kernel_rfl
  obtain ⟨l⟩ := cs
  obtain ⟨fuel, hf⟩ := h
  obtain ⟨xs, n, _, _, _, hlen, hg⟩ := DataW.trod_array hu hf
  match l, hsz.trans hC with
  | [c0, c1, c2], _ =>
    match xs, hlen with
    | [y0, y1, y2], _ =>
      obtain ⟨a, e0, ha⟩ := DataW.trod_int Tryz.underlying5 (show DataW.trod enc _ _ _ _ _ _ 5 [c0] = some y0 by simpa [Value.cells, cI] using hg 0 (by decide))
      obtain ⟨b, e1, hb⟩ := DataW.trod_int Tryz.underlying5 (show DataW.trod enc _ _ _ _ _ _ 5 [c1] = some y1 by simpa [Value.cells, cI] using hg 1 (by decide))
      obtain ⟨c, e2, hc⟩ := DataW.trod_int Tryz.underlying5 (show DataW.trod enc _ _ _ _ _ _ 5 [c2] = some y2 by simpa [Value.cells, cI] using hg 2 (by decide))
      simp only [List.cons.injEq, and_true] at e0 e1 e2
      subst e0 e1 e2
      have ba := bounds_u8 ha.2
      have bb := bounds_u8 hb.2
      have bc := bounds_u8 hc.2
      exact ⟨a.toNat, b.toNat, c.toNat, by rw [Int.toNat_of_nonneg ba.1, Int.toNat_of_nonneg bb.1, Int.toNat_of_nonneg bc.1], by omega, by omega, by omega⟩
end
end Go.Proofs.YtbejddpfnglkbaaGreatDoor.Sw
