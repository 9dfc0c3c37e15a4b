/-
  Base texts, one behind the other: LaidS LaidL.
-/
import Derived.Test.YtipifkgmhgkleaaGreatDoorMzBa
import Derived.Test.YtipifkgmhgkleaaGreatDoorCards
import Derived.Test.YtipifkgmhgkleaaGreatDoorTie
import Derived.LaidMore
import Derived.Stop.Joined
import Derived.Stop.LaidErr
import Derived.Lib.LaidTab
import Derived.Lib.SmallJoins
import Derived.Deep.Fields
namespace Go.Proofs.YtipifkgmhgkleaaGreatDoor
open Go.ChangeShapes Go.WideShapes Go.ChangeAt Go.RowKit

theorem gSiz : Tryz.prog.globalNamed "dustpan/class.sizes" = some 9 := by kernel_rfl
theorem tSiz : (Tryz.prog.globals[9]?).map (·.type) = some 319 := by kernel_rfl

theorem sizTab_of {W : World} {rest : List (String × DataW Unit)} (h : laidMet Tryz.prog (("dustpan/class.sizes", Rows.laid_dustpan_class_sizes) :: rest) W) : Class.SizTab W := by
  have ht := Lib.tabIs_of_head (k := .i64) (zs := [2, 4, 8, 16]) (rest := rest) gSiz tSiz Tryz.underlying319 Tryz.underlying3 (by kernel_rfl) (by kernel_rfl) h
  have hc : ∀ j, j < 4 → W.cell? ⟨9, j, none⟩ = some (.int .i64 (([2, 4, 8, 16] : List Int).getD j 0)) := fun j hj => ht.cell gSiz j hj
  exact ⟨hc 0 (by decide), hc 1 (by decide), hc 2 (by decide), hc 3 (by decide), World.block_lt_of_cell? W _ (hc 0 (by decide))⟩
end Go.Proofs.YtipifkgmhgkleaaGreatDoor

namespace Go.Proofs.YtipifkgmhgkleaaGreatDoor
open Go.ChangeShapes Go.WideShapes Go.ChangeAt Go.RowKit Go.Joins Go.Deep

section
variable {H : Type} {enc : TypeId × Value → H} {w : World} {base : Nat} {spare : Nat → Bool} {held : Bool}
set_option maxRecDepth 100000 in
/-- A config that came in: seven numbers. -/
theorem open_cfg {r : Reach} {b0 : Nat} {v : Value} {d : DataW H} {p : List MemPlace} (hv : Value.okWide Tryz.prog w r b0 23 v) (h : DataW.Trod enc Tryz.prog w base spare held 23 v d p) :
    ∃ b wd m r ce lg st : Int, v = .agg #[.int .i64 b, .int .i64 wd, .int .i64 m, .int .i64 r, .int .i64 ce, .int .i64 lg, .int .i64 st] := by
  obtain ⟨cs, rfl, hsz⟩ := okWide_struct Tryz.underlying23 hv
  have hC : Tryz.prog.cellsOf 23 = 7 := by kernel_rfl
  have hc3 : Tryz.prog.cellsOf 3 = 1 := by kernel_rfl
  obtain ⟨l⟩ := cs
  obtain ⟨fuel, hf⟩ := h
  obtain ⟨xs, n, _, hx, _, hlen, hg⟩ := DataW.trod_struct Tryz.underlying23 hf
  match l, hsz.trans hC with
  | [c0, c1, c2, c3, c4, c5, c6], _ =>
    match xs, hlen with
    | [y0, y1, y2, y3, y4, y5, y6], _ =>
      obtain ⟨b, e0, _⟩ := DataW.trod_int Tryz.underlying3 (show DataW.trod enc _ _ _ _ _ _ 3 [c0] = some y0 by simpa [Value.cells, hc3] using hg 0 _ rfl)
      obtain ⟨wd, e1, _⟩ := DataW.trod_int Tryz.underlying3 (show DataW.trod enc _ _ _ _ _ _ 3 [c1] = some y1 by simpa [Value.cells, hc3] using hg 1 _ rfl)
      obtain ⟨m, e2, _⟩ := DataW.trod_int Tryz.underlying3 (show DataW.trod enc _ _ _ _ _ _ 3 [c2] = some y2 by simpa [Value.cells, hc3] using hg 2 _ rfl)
      obtain ⟨r, e3, _⟩ := DataW.trod_int Tryz.underlying3 (show DataW.trod enc _ _ _ _ _ _ 3 [c3] = some y3 by simpa [Value.cells, hc3] using hg 3 _ rfl)
      obtain ⟨ce, e4, _⟩ := DataW.trod_int Tryz.underlying3 (show DataW.trod enc _ _ _ _ _ _ 3 [c4] = some y4 by simpa [Value.cells, hc3] using hg 4 _ rfl)
      obtain ⟨lg, e5, _⟩ := DataW.trod_int Tryz.underlying3 (show DataW.trod enc _ _ _ _ _ _ 3 [c5] = some y5 by simpa [Value.cells, hc3] using hg 5 _ rfl)
      obtain ⟨st, e6, _⟩ := DataW.trod_int Tryz.underlying3 (show DataW.trod enc _ _ _ _ _ _ 3 [c6] = some y6 by simpa [Value.cells, hc3] using hg 6 _ rfl)
      simp only [List.cons.injEq, and_true] at e0 e1 e2 e3 e4 e5 e6
      subst e0 e1 e2 e3 e4 e5 e6
      exact ⟨b, wd, m, r, ce, lg, st, rfl⟩

set_option maxRecDepth 100000 in
/-- A pair of limits. -/
theorem open_limit {fuel : Nat} {cs : List Value} {a c : Int} {ps : List MemPlace} (h : DataW.trod enc Tryz.prog w base spare held fuel 253 cs = some (.agg [.lit (.int .i64 a), .lit (.int .i64 c)], ps)) : cs = [.int .i64 a, .int .i64 c] := by
  have hC : Tryz.prog.cellsOf 253 = 2 := by kernel_rfl
  have hc3 : Tryz.prog.cellsOf 3 = 1 := by kernel_rfl
  obtain ⟨y0, y1, n, hx, hl, h0, h1⟩ := trod_struct2 Tryz.underlying253 h
  match cs, hl.trans hC with
  | [c0, c1], _ =>
    obtain ⟨b, e0, f0, _⟩ := DataW.trod_int Tryz.underlying3 (show DataW.trod enc _ _ _ _ _ _ 3 [c0] = some y0 by simpa [hc3] using h0)
    obtain ⟨d, e1, f1, _⟩ := DataW.trod_int Tryz.underlying3 (show DataW.trod enc _ _ _ _ _ _ 3 [c1] = some y1 by simpa [hc3] using h1)
    subst f0 f1
    simp at hx e0 e1
    obtain ⟨⟨rfl, rfl⟩, _⟩ := hx
    rw [e0, e1]
end

set_option maxRecDepth 100000 in
theorem gLim : Tryz.prog.globalNamed "dustpan/config.limits" = some 2 := by kernel_rfl
set_option maxRecDepth 100000 in
theorem tLim : (Tryz.prog.globals[2]?).map (·.type) = some 254 := by kernel_rfl

set_option maxRecDepth 100000 in
theorem limTab_of {W : World} {rest : List (String × DataW Unit)} (h : laidMet Tryz.prog (("dustpan/config.limits", Rows.laid_dustpan_config_limits) :: rest) W) : LimTab W := by
  obtain ⟨ps, ⟨g0, t0, cs0, f0, p0, q0, hg0, ht0, hv0, hd0, _, _⟩, _⟩ := h
  obtain rfl := Option.some.inj (gLim.symm.trans hg0)
  obtain rfl := Option.some.inj (tLim.symm.trans ht0)
  have hC : Tryz.prog.cellsOf 253 = 2 := by kernel_rfl
  obtain ⟨xs, m, _, hx, hlen, hn, hel⟩ := DataW.trod_array Tryz.underlying254 hd0
  have hC7 : Tryz.prog.cellsOf 254 = 14 := by kernel_rfl
  simp only [Prod.mk.injEq, Rows.laid_dustpan_config_limits, DataW.agg.injEq] at hx
  have hx1 := hx.1
  obtain ⟨l⟩ := cs0
  have hlen' : l.length = 14 := hlen.trans hC7
  match xs, hn, hx1, l, hlen', hel, hv0 with
  | [x0, x1, x2, x3, x4, x5, x6], _, hx1, [c0, c1, c2, c3, c4, c5, c6, c7, c8, c9, c10, c11, c12, c13], _, hel, hv0 =>
    simp only [List.map_cons, List.map_nil, List.cons.injEq] at hx1
    obtain ⟨f0', f1', f2', f3', f4', f5', f6', _⟩ := hx1
    have o0 := open_limit (a := 1) (c := 4096) (ps := x0.2) (show DataW.trod _ Tryz.prog W 0 _ false m 253 [c0, c1] = _ by
      have := hel 0 (by decide)
      rw [hC] at this
      refine (show DataW.trod _ Tryz.prog W 0 _ false m 253 [c0, c1] = some x0 from this).trans ?_
      rw [f0'])
    simp only [List.cons.injEq, and_true] at o0
    obtain ⟨rfl, rfl⟩ := o0
    have o1 := open_limit (a := 16) (c := 256) (ps := x1.2) (show DataW.trod _ Tryz.prog W 0 _ false m 253 [c2, c3] = _ by
      have := hel 1 (by decide)
      rw [hC] at this
      refine (show DataW.trod _ Tryz.prog W 0 _ false m 253 [c2, c3] = some x1 from this).trans ?_
      rw [f1'])
    simp only [List.cons.injEq, and_true] at o1
    obtain ⟨rfl, rfl⟩ := o1
    have o2 := open_limit (a := 1) (c := 8) (ps := x2.2) (show DataW.trod _ Tryz.prog W 0 _ false m 253 [c4, c5] = _ by
      have := hel 2 (by decide)
      rw [hC] at this
      refine (show DataW.trod _ Tryz.prog W 0 _ false m 253 [c4, c5] = some x2 from this).trans ?_
      rw [f2'])
    simp only [List.cons.injEq, and_true] at o2
    obtain ⟨rfl, rfl⟩ := o2
    have o3 := open_limit (a := 1) (c := 64) (ps := x3.2) (show DataW.trod _ Tryz.prog W 0 _ false m 253 [c6, c7] = _ by
      have := hel 3 (by decide)
      rw [hC] at this
      refine (show DataW.trod _ Tryz.prog W 0 _ false m 253 [c6, c7] = some x3 from this).trans ?_
      rw [f3'])
    simp only [List.cons.injEq, and_true] at o3
    obtain ⟨rfl, rfl⟩ := o3
    have o4 := open_limit (a := 0) (c := 64) (ps := x4.2) (show DataW.trod _ Tryz.prog W 0 _ false m 253 [c8, c9] = _ by
      have := hel 4 (by decide)
      rw [hC] at this
      refine (show DataW.trod _ Tryz.prog W 0 _ false m 253 [c8, c9] = some x4 from this).trans ?_
      rw [f4'])
    simp only [List.cons.injEq, and_true] at o4
    obtain ⟨rfl, rfl⟩ := o4
    have o5 := open_limit (a := 1) (c := 256) (ps := x5.2) (show DataW.trod _ Tryz.prog W 0 _ false m 253 [c10, c11] = _ by
      have := hel 5 (by decide)
      rw [hC] at this
      refine (show DataW.trod _ Tryz.prog W 0 _ false m 253 [c10, c11] = some x5 from this).trans ?_
      rw [f5'])
    simp only [List.cons.injEq, and_true] at o5
    obtain ⟨rfl, rfl⟩ := o5
    have o6 := open_limit (a := 1) (c := 4096) (ps := x6.2) (show DataW.trod _ Tryz.prog W 0 _ false m 253 [c12, c13] = _ by
      have := hel 6 (by decide)
      rw [hC] at this
      refine (show DataW.trod _ Tryz.prog W 0 _ false m 253 [c12, c13] = some x6 from this).trans ?_
      rw [f6'])
    simp only [List.cons.injEq, and_true] at o6
    obtain ⟨rfl, rfl⟩ := o6
    have hv : ∀ j v, (List.toArray [Value.int .i64 1, .int .i64 4096, .int .i64 16, .int .i64 256, .int .i64 1, .int .i64 8, .int .i64 1, .int .i64 64, .int .i64 0, .int .i64 64, .int .i64 1, .int .i64 256, .int .i64 1, .int .i64 4096])[j]? = some v → W.cell? ⟨2, j, none⟩ = some v := fun j v e => (World.var?_cell hg0 hv0 j).trans e
    exact ⟨hv 0 _ rfl, hv 1 _ rfl, hv 2 _ rfl, hv 3 _ rfl, hv 4 _ rfl, hv 5 _ rfl, hv 6 _ rfl, hv 7 _ rfl, hv 8 _ rfl, hv 9 _ rfl, hv 10 _ rfl, hv 11 _ rfl, hv 12 _ rfl, hv 13 _ rfl, World.block_lt_of_cell? W _ (hv 0 _ rfl)⟩

end Go.Proofs.YtipifkgmhgkleaaGreatDoor
