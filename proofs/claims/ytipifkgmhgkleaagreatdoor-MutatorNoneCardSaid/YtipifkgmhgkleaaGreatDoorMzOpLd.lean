/-
  What the laid variables give: the table of forms, the library's tables.
-/
import Derived.Test.YtipifkgmhgkleaaGreatDoorMzOa
import Derived.Test.YtipifkgmhgkleaaGreatDoorMzLai
import Derived.HandedShaped
import Derived.Shelf.Vars
import Derived.Lay
namespace Go.Proofs.YtipifkgmhgkleaaGreatDoor.Opr
open Go.ChangeShapes Go.WideShapes Go.ChangeAt Go.RowKit Go.Joins Go.Deep

section
variable {H : Type} {enc : TypeId × Value → H}
/-- The plain wrap with a condition on the world, the world's shape kept. -/
theorem handed_and_shaped {a : Assume} {C : Checked} {os : Os} {f : FuncId} {fn : Func} {s : ChangeSpec} {conds : List PathCond} {apart fresh handsOn again : Bool} {X : World → Array Value → Prop}
    (hX : ∀ (w w' : World) (args : Array Value), w.heap = w'.heap → X w args → X w' args)
    (own : ownKnob C.prog.godebug = none) (started : os.Started) (noInit : C.prog.inits.idxOf? f = none) (hfn : C.prog.funcs[f]? = some fn)
    (witness : ∃ (w : World) (tape : Tape) (i : Input), w.os = os ∧ (w.forCall tape i).Shaped C.prog ∧ i.vars = [] ∧ Input.okWide C.prog (w.forCall tape i) .any w.heap.size f i ∧
      ((s.pre enc C.prog fn conds apart (w.forCall tape i).memory i.args ∧ X (w.forCall tape i).memory i.args) ∧ sizedMet enc C.prog fn (OpenSpec.ofChange s) apart (w.forCall tape i).memory i.args) ∧ a.holds C.prog (lone (Frame.enter C.prog f i.args .normal) [] (w.forCall tape i)))
    (contract : ∀ (W : World) (base : Nat) (args : Array Value) (ds gs : List (DataW H)) (before : List MemPlace),
      (∀ (j : Nat) t v, fn.params[j]? = some t → args[j]? = some v → Value.okWide C.prog W .any base t v) →
      DataW.Whole enc C.prog fn.params.toList s.vars apart W args.toList ds gs before →
      conds.all (PathCond.test C.prog ⟨fn.params.toList, ds, s.plain.varTypes C.prog, gs⟩) = true →
      (DataW.weightsEach C.prog (fn.params.toList ++ s.plain.varTypes C.prog) (ds ++ gs)).all (· ≤ reachBytes) = true → X W args → W.ShapedOpen C.prog →
      a.holds C.prog (lone (Frame.enter C.prog f args .normal) [] W) →
      Calls C.prog f args W fun e W' => ∃ v, e = .returned v ∧ s.post enc C.prog fn apart fresh handsOn again W args v W') :
    ReturnsInHanded a C os f .any (fun w args => (s.pre enc C.prog fn conds apart w args ∧ X w args) ∧ sizedMet enc C.prog fn (OpenSpec.ofChange s) apart w args) (s.post enc C.prog fn apart fresh handsOn again) := by
  refine returnsInHanded_of_calls own started noInit witness ?_
  intro w tape i _ hsh _ hok hpre hholds
  obtain ⟨_, _, _, fn', hfn', _, _, _, _, hval⟩ := hok
  have e : fn' = fn := Option.some.inj (hfn'.symm.trans hfn)
  subst e
  obtain ⟨⟨⟨ds, gs, before, hw, hc⟩, hx⟩, hz⟩ := hpre
  have hw' := DataW.Whole.of_heap (w' := w.forCall tape i) (by rfl) hw
  refine (contract (w.forCall tape i) w.heap.size i.args ds gs before hval hw' hc (hz.weights hw) (hX _ _ _ (by rfl) hx) hsh hholds).mono fun e W' ⟨v, he, hp⟩ => ?_
  subst he
  exact ChangeSpec.post_blind hp
end

/-! The library's. -/

/-! The forms. -/
theorem gForms : Tryz.prog.globalNamed "dustpan/op.forms" = some 1 := by kernel_rfl
theorem tForms : (Tryz.prog.globals[1]?).map (·.type) = some 241 := by kernel_rfl
section
variable {H : Type} {enc : TypeId × Value → H} {w : World} {base : Nat} {spare : Nat → Bool} {held : Bool}
set_option maxRecDepth 100000 in
theorem open_three {fuel : Nat} {cs : List Value} {a b c : Int} {ps : List MemPlace} (h : DataW.trod enc Tryz.prog w base spare held fuel 202 cs = some (.agg [.lit (.int .i64 a), .lit (.int .i64 b), .lit (.int .i64 c)], ps)) : cs = [.int .i64 a, .int .i64 b, .int .i64 c] :=
  Lib.cells_of_tab (k := .i64) (zs := [a, b, c]) Tryz.underlying202 Tryz.underlying3 (by kernel_rfl) (by kernel_rfl) h
set_option maxRecDepth 100000 in
theorem open_form {fuel : Nat} {cs : List Value} {l : List UInt8} {a b c : Int} {ps : List MemPlace} (h : DataW.trod enc Tryz.prog w base spare held fuel 240 cs = some (.agg [.lit (.string l), .agg [.lit (.int .i64 a), .lit (.int .i64 b), .lit (.int .i64 c)]], ps)) :
    cs = [.string (bs l), .int .i64 a, .int .i64 b, .int .i64 c] := by
  have hC : Tryz.prog.cellsOf 240 = 4 := by kernel_rfl
  have hc3 : Tryz.prog.cellsOf 202 = 3 := by kernel_rfl
  have hc1 : Tryz.prog.cellsOf 9 = 1 := by kernel_rfl
  obtain ⟨y0, y1, n, hx, hl, h0, h1⟩ := trod_struct2 Tryz.underlying240 h
  match cs, hl.trans hC with
  | [c0, c1, c2, c3], _ =>
    obtain ⟨s, e0, f0, _⟩ := DataW.trod_string Tryz.underlying9 (show DataW.trod enc _ _ _ _ _ _ 9 [c0] = some y0 by simpa [hc1] using h0)
    have h3 : DataW.trod enc Tryz.prog w base spare held n 202 [c1, c2, c3] = some y1 := by simpa [hc3] using h1
    simp only [Prod.mk.injEq, DataW.agg.injEq, List.cons.injEq, and_true] at hx
    obtain ⟨⟨hx0, hx1⟩, _⟩ := hx
    obtain ⟨z, zp⟩ := y1
    simp only at hx1
    subst hx1
    have e3 := open_three h3
    simp only [List.cons.injEq, and_true] at e0 e3
    obtain ⟨rfl, rfl, rfl⟩ := e3
    subst e0
    rw [f0] at hx0
    simp only [DataW.lit.injEq, Lit.string.injEq] at hx0
    rw [hx0]
    rfl
end

def formD (k : Nat) : DataW Unit := .agg [.lit (.string (wordK k)), .agg [.lit (.int .i64 (useK k 0)), .lit (.int .i64 (useK k 1)), .lit (.int .i64 (useK k 2))]]
theorem forms_eq : (Rows.laid_dustpan_op_forms : DataW Unit) = .agg ((List.range 9).map formD) := by kernel_rfl
set_option maxRecDepth 100000 in
theorem formTab_of {W : World} {rest : List (String × DataW Unit)} (h : laidMet Tryz.prog (("dustpan/op.forms", Rows.laid_dustpan_op_forms) :: rest) W) : FormTab W := by
  obtain ⟨ps, ⟨g0, t0, cs0, f0, p0, q0, hg0, ht0, hv0, hd0, _, _⟩, _⟩ := h
  obtain rfl := Option.some.inj (gForms.symm.trans hg0)
  obtain rfl := Option.some.inj (tForms.symm.trans ht0)
  have hC : Tryz.prog.cellsOf 240 = 4 := by kernel_rfl
  have hC9 : Tryz.prog.cellsOf 241 = 36 := by kernel_rfl
  rw [forms_eq] at hd0
  obtain ⟨xs, m, _, hx, hlen, hn, hel⟩ := DataW.trod_array Tryz.underlying241 hd0
  have hx1 : (List.range 9).map formD = xs.map (·.1) := by
    have := congrArg Prod.fst hx
    simpa using this
  obtain ⟨l⟩ := cs0
  have hlen' : l.length = 36 := hlen.trans hC9
  have hrow : ∀ k, k < 9 → (l.drop (k * 4)).take 4 = [.string (bs (wordK k)), .int .i64 (useK k 0), .int .i64 (useK k 1), .int .i64 (useK k 2)] := fun k hk => by
    have h1 := hel k hk
    rw [hC] at h1
    obtain ⟨x, hxk⟩ : ∃ x, xs[k]? = some x := ⟨xs[k]'(by omega), List.getElem?_eq_getElem _⟩
    rw [hxk] at h1
    have h2 : x.1 = formD k := by
      have h3 := congrArg (fun q => q[k]?) hx1
      simp only [List.getElem?_map, hxk, Option.map_some] at h3
      rw [List.getElem?_range hk] at h3
      simpa using h3.symm
    obtain ⟨x1, x2⟩ := x
    simp only at h2
    subst h2
    exact open_form h1
  have hcell : ∀ k j v, k < 9 → j < 4 → ([Value.string (bs (wordK k)), .int .i64 (useK k 0), .int .i64 (useK k 1), .int .i64 (useK k 2)] : List Value)[j]? = some v → W.cell? ⟨1, k * 4 + j, none⟩ = some v := fun k j v hk hj hv => by
    refine (World.var?_cell hg0 hv0 (k * 4 + j)).trans ?_
    rw [← hrow k hk, List.getElem?_take, if_pos hj, List.getElem?_drop] at hv
    rw [List.getElem?_toArray]
    exact hv
  refine ⟨fun k hk => ?_, fun k p hk hp => ?_, ?_⟩
  · exact hcell k 0 _ hk (by omega) rfl
  · have h3 : p = 0 ∨ p = 1 ∨ p = 2 := by omega
    rcases h3 with rfl | rfl | rfl
    · exact hcell k 1 _ hk (by omega) rfl
    · exact hcell k 2 _ hk (by omega) rfl
    · exact hcell k 3 _ hk (by omega) rfl
  · exact World.block_lt_of_cell? W _ (hcell 0 0 _ (by omega) (by omega) rfl)

end Go.Proofs.YtipifkgmhgkleaaGreatDoor.Opr
