/-
  Opening what a law of layer 19 is given: a case, bytes, a bool.
-/
import Derived.Test.YtkfgchhlekdpgaaGreatDoorNtJ
import Derived.SizedLaws
import Derived.Deep.Slices
namespace Go.Proofs.YtkfgchhlekdpgaaGreatDoor.Nt
open Go.ChangeShapes Go.WideShapes Go.ChangeAt Go.RowKit
open Blk (Cfg BytesP)
open Sw (ThingsP thAt)

section
variable {H : Type} {enc : TypeId × Value → H} {w : World} {base : Nat} {spare : Nat → Bool} {held : Bool}
set_option maxRecDepth 100000 in
theorem cfg_cells {fuel : Nat} {c0 c1 c2 c3 c4 c5 c6 : Value} {x : DataW H × List MemPlace} (hf : DataW.trod enc Tryz.prog w base spare held fuel 23 [c0, c1, c2, c3, c4, c5, c6] = some x) :
    ∃ c : Cfg, c0 = .int .i64 c.b ∧ c1 = .int .i64 c.wd ∧ c2 = .int .i64 c.m ∧ c3 = .int .i64 c.r ∧ c4 = .int .i64 c.ce ∧ c5 = .int .i64 c.lg ∧ c6 = .int .i64 c.st := by
  have hc3 : Tryz.prog.cellsOf 3 = 1 := by kernel_rfl
  obtain ⟨xs, n, _, hx, _, hlen, hg⟩ := DataW.trod_struct Tryz.underlying23 hf
  match xs, hlen with
  | [y0, y1, y2, y3, y4, y5, y6], _ =>
    obtain ⟨b, e0, _⟩ := DataW.trod_int Tryz.underlying3 (show DataW.trod enc _ _ _ _ _ _ 3 [c0] = some y0 by simpa [Value.cells, hc3] using hg 0 _ rfl)
    obtain ⟨wd, e1, _⟩ := DataW.trod_int Tryz.underlying3 (show DataW.trod enc _ _ _ _ _ _ 3 [c1] = some y1 by simpa [Value.cells, hc3] using hg 1 _ rfl)
    obtain ⟨m, e2, _⟩ := DataW.trod_int Tryz.underlying3 (show DataW.trod enc _ _ _ _ _ _ 3 [c2] = some y2 by simpa [Value.cells, hc3] using hg 2 _ rfl)
    obtain ⟨r, e3, _⟩ := DataW.trod_int Tryz.underlying3 (show DataW.trod enc _ _ _ _ _ _ 3 [c3] = some y3 by simpa [Value.cells, hc3] using hg 3 _ rfl)
    obtain ⟨ce, e4, _⟩ := DataW.trod_int Tryz.underlying3 (show DataW.trod enc _ _ _ _ _ _ 3 [c4] = some y4 by simpa [Value.cells, hc3] using hg 4 _ rfl)
    obtain ⟨lg, e5, _⟩ := DataW.trod_int Tryz.underlying3 (show DataW.trod enc _ _ _ _ _ _ 3 [c5] = some y5 by simpa [Value.cells, hc3] using hg 5 _ rfl)
    obtain ⟨st, e6, _⟩ := DataW.trod_int Tryz.underlying3 (show DataW.trod enc _ _ _ _ _ _ 3 [c6] = some y6 by simpa [Value.cells, hc3] using hg 6 _ rfl)
    simp only [List.cons.injEq, and_true] at e0 e1 e2 e3 e4 e5 e6
    exact ⟨⟨b, wd, m, r, ce, lg, st⟩, e0, e1, e2, e3, e4, e5, e6⟩
set_option maxRecDepth 100000 in
theorem thing_cells {fuel : Nat} {c0 c1 c2 : Value} {x : DataW H × List MemPlace} (h : DataW.trod enc Tryz.prog w base spare held fuel 114 [c0, c1, c2] = some x) : ∃ (a b : Nat) (g : Bool), c0 = .int .u8 a ∧ c1 = .int .u8 b ∧ c2 = .bool g ∧ a < 256 ∧ b < 256 := by
  have hc5 : Tryz.prog.cellsOf 5 = 1 := by kernel_rfl
  have hc6 : Tryz.prog.cellsOf 4 = 1 := by kernel_rfl
  obtain ⟨xs, n, _, hx, _, hlen, hg⟩ := DataW.trod_struct Tryz.underlying114 h
  match xs, hlen with
  | [y0, y1, y2], _ =>
    obtain ⟨k, e0, hk⟩ := DataW.trod_int Tryz.underlying5 (show DataW.trod enc _ _ _ _ _ _ 5 [c0] = some y0 by simpa [Value.cells, hc5, hc6] using hg 0 _ rfl)
    obtain ⟨a, e1, ha⟩ := DataW.trod_int Tryz.underlying5 (show DataW.trod enc _ _ _ _ _ _ 5 [c1] = some y1 by simpa [Value.cells, hc5, hc6] using hg 1 _ rfl)
    obtain ⟨b, e2, _⟩ := DataW.trod_bool Tryz.underlying4 (show DataW.trod enc _ _ _ _ _ _ 4 [c2] = some y2 by simpa [Value.cells, hc5, hc6] using hg 2 _ rfl)
    simp only [List.cons.injEq, and_true] at e0 e1 e2
    have hb := bounds_u8 hk.2
    have hb2 := bounds_u8 ha.2
    exact ⟨k.toNat, a.toNat, b, by rw [Int.toNat_of_nonneg hb.1]; exact e0, by rw [Int.toNat_of_nonneg hb2.1]; exact e1, e2, by omega, by omega⟩
set_option maxRecDepth 100000 in
theorem things_cells {fuel : Nat} {cv : Value} {x : DataW H × List MemPlace} (hf : DataW.trod enc Tryz.prog w base spare held fuel 24 [cv] = some x) :
    ∃ (a : Option Addr) (l : List (Nat × Nat × Bool)) (cap : Nat), cv = .slice a l.length cap ∧ ThingsP w.heap.size w a l ∧ l.length ≤ maxLen := by
  have hC : Tryz.prog.cellsOf 114 = 3 := by kernel_rfl
  rcases Deep.open_slice Tryz.underlying24 hf with ⟨hcs, _⟩ | ⟨a', len', cap', m, n, D, Pl, hcs, _, hl, hm, hmm, _, hx⟩
  · simp at hcs
    subst hcs
    exact ⟨none, [], 0, rfl, fun j hj => absurd hj (by simp), by simp⟩
  · simp at hcs
    subst hcs
    have hlm : len' ≤ m := by rw [hmm]; split <;> omega
    have each : ∀ i, i < len' → ∃ q : Nat × Nat × Bool, w.cell? (a'.add (i * 3)) = some (.int .u8 q.1) ∧ w.cell? (a'.add (i * 3 + 1)) = some (.int .u8 q.2.1) ∧ w.cell? (a'.add (i * 3 + 2)) = some (.bool q.2.2) ∧ q.1 < 256 ∧ q.2.1 < 256 := fun i hi => by
      obtain ⟨cs', h1, h2⟩ := hx i (by omega)
      rw [hC] at h1
      obtain ⟨_, hlen, hcell⟩ := World.cells?_some h1
      match cs', hlen with
      | [v0, v1, v2], _ =>
        obtain ⟨x, y, z, rfl, rfl, rfl, hxb, hyb⟩ := thing_cells h2
        have e0 := hcell 0 (by omega)
        have e1 := hcell 1 (by omega)
        have e2 := hcell 2 (by omega)
        rw [Deep.add_add] at e0 e1 e2
        exact ⟨(x, y, z), by simpa using e0, by simpa using e1, by simpa using e2, hxb, hyb⟩
    obtain ⟨q, hq⟩ := Deep.choose_lt each
    refine ⟨some a', (List.range len').map q, cap', by simp, fun j hj => ?_, by simp; omega⟩
    have hj' : j < len' := by simpa using hj
    obtain ⟨c0, c1, c2, c3⟩ := hq j hj'
    obtain ⟨b, off, spot⟩ := a'
    have hspot : spot = none := by simpa [Addr.add] using World.cell?_spot (hq 0 (by omega)).1
    subst hspot
    rw [Go.WideShapes.add_plain] at c0 c1 c2
    have hd : thAt ((List.range len').map q) j = q j := by unfold thAt; simp [hj', List.getD_eq_getElem?_getD]
    rw [hd]
    exact ⟨b, off, rfl, World.block_lt_of_cell? w _ c0, c0, by rw [Nat.add_assoc, c1], by rw [Nat.add_assoc, c2], c3⟩
set_option maxRecDepth 100000 in
theorem bytes_cells {fuel : Nat} {cv : Value} {x : DataW H × List MemPlace} (hf : DataW.trod enc Tryz.prog w base spare held fuel 25 [cv] = some x) :
    ∃ (a : Option Addr) (l : List Nat) (cap : Nat), cv = .slice a l.length cap ∧ BytesP w.heap.size w a l ∧ l.length ≤ maxLen := by
  have hC : Tryz.prog.cellsOf 5 = 1 := by kernel_rfl
  rcases Deep.open_slice1 Tryz.underlying25 hC hf with ⟨hcs, _⟩ | ⟨a', len', cap', m, n, V, D, Pl, hcs, _, hl, hm, hmm, _, hx⟩
  · simp at hcs
    subst hcs
    exact ⟨none, [], 0, rfl, fun j hj => absurd hj (by simp), by simp⟩
  · simp at hcs
    subst hcs
    have hlm : len' ≤ m := by rw [hmm]; split <;> omega
    have each : ∀ i, i < len' → ∃ q : Nat, w.cell? (a'.add i) = some (.int .u8 q) ∧ q < 256 := fun i hi => by
      obtain ⟨h1, h2⟩ := hx i (by omega)
      obtain ⟨k, e0, hk⟩ := DataW.trod_int Tryz.underlying5 h2
      simp only [List.cons.injEq, and_true] at e0
      have hb := bounds_u8 hk.2
      exact ⟨k.toNat, by rw [Int.toNat_of_nonneg hb.1, h1, e0], by omega⟩
    obtain ⟨q, hq⟩ := Deep.choose_lt each
    refine ⟨some a', (List.range len').map q, cap', by simp, fun j hj => ?_, by simp; omega⟩
    have hj' : j < len' := by simpa using hj
    obtain ⟨c0, c3⟩ := hq j hj'
    obtain ⟨b, off, spot⟩ := a'
    have hspot : spot = none := by simpa [Addr.add] using World.cell?_spot (hq 0 (by omega)).1
    subst hspot
    rw [Go.WideShapes.add_plain] at c0
    have hd : ((List.range len').map q).getD j 0 = q j := by simp [hj', List.getD_eq_getElem?_getD]
    rw [hd]
    exact ⟨b, off, rfl, World.block_lt_of_cell? w _ c0, c3, c0⟩
set_option maxRecDepth 100000 in
/-- A case that came in. -/
theorem open_case {r : Reach} {b0 : Nat} {v : Value} {d : DataW H} {p : List MemPlace} (hv : Value.okWide Tryz.prog w r b0 27 v) (h : DataW.Trod enc Tryz.prog w base spare held 27 v d p) :
    ∃ q : Cs, v = (.agg #[.int .i64 q.c.b, .int .i64 q.c.wd, .int .i64 q.c.m, .int .i64 q.c.r, .int .i64 q.c.ce, .int .i64 q.c.lg, .int .i64 q.c.st, .slice q.pt q.l.length q.ct, .slice q.pb q.bl.length q.cb, .slice q.px q.xl.length q.cx, .int .u8 q.room, .bool q.up]) ∧ CsP w.heap.size w q := by
  obtain ⟨cs, rfl, hsz⟩ := okWide_struct Tryz.underlying27 hv
  have hC : Tryz.prog.cellsOf 27 = 12 := by kernel_rfl
  have hc1 : Tryz.prog.cellsOf 23 = 7 := by kernel_rfl
  have hc2 : Tryz.prog.cellsOf 24 = 1 := by kernel_rfl
  have hc3 : Tryz.prog.cellsOf 25 = 1 := by kernel_rfl
  have hc4 : Tryz.prog.cellsOf 5 = 1 := by kernel_rfl
  have hc5 : Tryz.prog.cellsOf 4 = 1 := by kernel_rfl
  obtain ⟨l⟩ := cs
  obtain ⟨fuel, hf⟩ := h
  obtain ⟨xs, n, _, hx, _, hlen, hg⟩ := DataW.trod_struct Tryz.underlying27 hf
  match l, hsz.trans hC with
  | [c0, c1, c2, c3, c4, c5, c6, c7, c8, c9, c10, c11], _ =>
    match xs, hlen with
    | [y0, y1, y2, y3, y4, y5], _ =>
      obtain ⟨c, rfl, rfl, rfl, rfl, rfl, rfl, rfl⟩ := cfg_cells (show DataW.trod enc _ _ _ _ _ _ 23 [c0, c1, c2, c3, c4, c5, c6] = some y0 by simpa [Value.cells, hc1] using hg 0 _ rfl)
      obtain ⟨pa, l, ca, rfl, h1, h2⟩ := things_cells (show DataW.trod enc _ _ _ _ _ _ 24 [c7] = some y1 by simpa [Value.cells, hc2] using hg 1 _ rfl)
      obtain ⟨pb, bl, cb, rfl, h3, h4⟩ := bytes_cells (show DataW.trod enc _ _ _ _ _ _ 25 [c8] = some y2 by simpa [Value.cells, hc3] using hg 2 _ rfl)
      obtain ⟨px, xl, cx, rfl, h5, h6⟩ := bytes_cells (show DataW.trod enc _ _ _ _ _ _ 25 [c9] = some y3 by simpa [Value.cells, hc3] using hg 3 _ rfl)
      obtain ⟨k, e0, hk⟩ := DataW.trod_int Tryz.underlying5 (show DataW.trod enc _ _ _ _ _ _ 5 [c10] = some y4 by simpa [Value.cells, hc4] using hg 4 _ rfl)
      obtain ⟨b, e1, _⟩ := DataW.trod_bool Tryz.underlying4 (show DataW.trod enc _ _ _ _ _ _ 4 [c11] = some y5 by simpa [Value.cells, hc5] using hg 5 _ rfl)
      simp only [List.cons.injEq, and_true] at e0 e1
      subst e0 e1
      have hb := bounds_u8 hk.2
      exact ⟨⟨c, pa, ca, l, pb, cb, bl, px, cx, xl, k.toNat, b⟩, by simp [Int.toNat_of_nonneg hb.1], ⟨h1, h2, h3, h4, h5, h6, show k.toNat < 256 by omega⟩⟩
set_option maxRecDepth 100000 in
theorem open_vals {r : Reach} {b0 : Nat} {v : Value} {d : DataW H} {p : List MemPlace} (hv : Value.okWide Tryz.prog w r b0 25 v) (h : DataW.Trod enc Tryz.prog w base spare held 25 v d p) :
    ∃ (a : Option Addr) (l : List Nat) (cap : Nat), v = .slice a l.length cap ∧ BytesP w.heap.size w a l ∧ l.length ≤ maxLen := by
  obtain ⟨a, len, cap, rfl⟩ := okWide_slice Tryz.underlying25 hv
  obtain ⟨fuel, hf⟩ := h
  exact bytes_cells (by simpa [Value.cells] using hf)
end
end Go.Proofs.YtkfgchhlekdpgaaGreatDoor.Nt
