/-
  A row of events more: append of rows.
-/
import Derived.Test.YtodfkklkgcoddaaDoorSsJ
import Derived.Maps.AppendAt
namespace Go.Proofs.YtodfkklkgcoddaaDoor.Ss
open Go.RowKit
open Go.Proofs.YtodfkklkgcoddaaDoor.Row

def e6C (x : Ev) : List Value := [.int .i64 x.pick, .int .i64 x.who, .int .i64 x.kind, .int .i64 x.op, .int .i64 x.code, .int .i64 x.value]
def cellsE (l : List Ev) : List Value := l.flatMap e6C
theorem cellsE_len (l : List Ev) : (cellsE l).length = l.length * 6 := by
  induction l with
  | nil => rfl
  | cons x l ih =>
    simp only [cellsE, List.flatMap_cons, List.length_append, List.length_cons] at ih ⊢
    rw [ih, show (e6C x).length = 6 from rfl]; omega
theorem cellsE_at {l : List Ev} {j t : Nat} (ht : t < 6) {x : Ev} (hx : l[j]? = some x) : (cellsE l)[j * 6 + t]? = (e6C x)[t]? := by
  induction l generalizing j with
  | nil => simp at hx
  | cons y l ih =>
    cases j with
    | zero =>
      simp only [List.getElem?_cons_zero, Option.some.injEq] at hx
      subst hx
      simp only [cellsE, List.flatMap_cons, Nat.zero_mul, Nat.zero_add]
      rw [List.getElem?_append_left (by exact ht)]
    | succ j =>
      simp only [List.getElem?_cons_succ] at hx
      have := ih hx
      simp only [cellsE, List.flatMap_cons] at this ⊢
      rw [List.getElem?_append_right (by show 6 ≤ _; omega), ← this]
      congr 1
      show (j + 1) * 6 + t - 6 = _
      omega
theorem infoEv : (Tryd.prog.info? 44).map (fun i => (i.zero, i.size, i.bytes)) = some (some (.agg #[.int .i64 0, .int .i64 0, .int .i64 0, .int .i64 0, .int .i64 0, .int .i64 0]), 6, 48) := by kernel_rfl
theorem cellsE_one (l : List Ev) : ∀ u ∈ cellsE l, u.oneCell' = true := fun u hu => by
  obtain ⟨x, _, hx⟩ := List.mem_flatMap.1 hu
  simp only [e6C, List.mem_cons, List.not_mem_nil, or_false] at hx
  rcases hx with rfl | rfl | rfl | rfl | rfl | rfl <;> rfl
theorem getD_some {l : List Ev} {i : Nat} (h : i < l.length) : l[i]? = some (l.getD i ev0) := by rw [List.getD_eq_getElem?_getD, List.getElem?_eq_getElem h]; rfl
theorem evAt_cells {w : World} {ad : Addr} {l : List Ev} (h : EvAt w (some ad) l) : ∀ (j : Nat) (u : Value), (cellsE l)[j]? = some u → w.cell? (ad.add j) = some u := fun j u hj => by
  have hjl : j < l.length * 6 := by have := (List.getElem?_eq_some_iff.1 hj).1; rwa [cellsE_len] at this
  have hd : j = j / 6 * 6 + j % 6 := by omega
  have hq : j / 6 < l.length := by omega
  obtain ⟨b, off, e, c0, c1, c2, c3, c4, c5⟩ := h (j / 6) hq
  cases e
  rw [hd, cellsE_at (Nat.mod_lt _ (by decide)) (getD_some hq)] at hj
  rw [Addr.add_lit]
  rw [hd]
  have hm : j % 6 < 6 := Nat.mod_lt _ (by decide)
  generalize j % 6 = t at hj hm ⊢
  rw [← Nat.add_assoc]
  match t, hm with
  | 0, _ => cases hj; exact c0
  | 1, _ => cases hj; exact c1
  | 2, _ => cases hj; exact c2
  | 3, _ => cases hj; exact c3
  | 4, _ => cases hj; exact c4
  | 5, _ => cases hj; exact c5
theorem EvAt.of_owns {w : World} {base cap : Nat} {p : Option Addr} {l : List Ev} (h : w.ownsRow base 44 6 (.slice p l.length cap) l.length (cellsE l)) : EvAt w p l := fun i hi => by
  have h2 := h
  obtain ⟨_, ⟨e, hn⟩ | ⟨g, c, cur, e, r⟩⟩ := h2
  · omega
  · obtain rfl : p = some ⟨g, 0, none⟩ := by injection e
    have hx := getD_some hi
    have hc : ∀ t, t < 6 → w.cell? ⟨g, i * 6 + t, none⟩ = (e6C (l.getD i ev0))[t]? := fun t ht => by
      obtain ⟨u, hu⟩ : ∃ u, (e6C (l.getD i ev0))[t]? = some u := ⟨_, List.getElem?_eq_getElem (by exact ht)⟩
      rw [hu]
      exact owns_cellN h _ _ ((cellsE_at ht hx).trans hu)
    refine ⟨g, 0, rfl, ?_, ?_, ?_, ?_, ?_, ?_⟩
    · rw [Nat.zero_add]; exact hc 0 (by decide)
    · rw [Nat.zero_add]; exact hc 1 (by decide)
    · rw [Nat.zero_add]; exact hc 2 (by decide)
    · rw [Nat.zero_add]; exact hc 3 (by decide)
    · rw [Nat.zero_add]; exact hc 4 (by decide)
    · rw [Nat.zero_add]; exact hc 5 (by decide)
theorem run_append_none {P : Program} (w : World) (t ty e : TypeId) (i : TypeInfo) (ht : P.underlying t = some (.slice e)) (hi : P.info? e = some i) (b : Addr) (n cap c : Nat) (hle : n ≤ cap) :
    (Builtin.append_ #[t, t] ty #[.slice (some b) n cap, .slice none 0 c]).run P w = .ok (.slice (some b) n cap) w := by
  simp [Builtin.append_, run_underlying ht, sizeOf, typeInfo, hi, Builtin.lenOf, Builtin.firstCells, loadCells, storeCells, hle]
theorem run_append_none0 {P : Program} (w : World) (t ty e : TypeId) (i : TypeInfo) (ht : P.underlying t = some (.slice e)) (hi : P.info? e = some i) (c : Nat) :
    (Builtin.append_ #[t, t] ty #[.slice none 0 0, .slice none 0 c]).run P w = .ok (.slice none 0 0) w := by
  simp [Builtin.append_, run_underlying ht, sizeOf, typeInfo, hi, Builtin.lenOf, Builtin.firstCells]
/-- append of a row of events to one that is owned. -/
theorem run_append_row (w : World) (base : Nat) (ty : TypeId) (pl : Option Addr) (cap : Nat) (l : List Ev) (hown : w.ownsRow base 44 6 (.slice pl l.length cap) l.length (cellsE l))
    (pa : Option Addr) (ca : Nat) (za : List Ev) (ha : EvAt w pa za) (hl : l.length + za.length ≤ 10000) (hbase : base ≤ w.heap.size) :
    ∃ p' c' w', (Builtin.append_ #[22, 22] ty #[.slice pl l.length cap, .slice pa za.length ca]).run Tryd.prog w = .ok (.slice p' (l ++ za).length c') w' ∧ w'.ownsRow base 44 6 (.slice p' (l ++ za).length c') (l ++ za).length (cellsE (l ++ za)) ∧ Below base w w' := by
  obtain ⟨i, hi, hz, hs, hb⟩ := info_parts infoEv
  have hcz : cellsE (l ++ za) = cellsE l ++ cellsE za := by simp [cellsE]
  have hbl : ∀ w', w.grownBy w' (Value.slice pl l.length cap).ownBlock → Below base w w' := fun w' hg => (Below.refl base w).grown hg hbase (by
    intro k hk
    cases pl with
    | none => cases hk
    | some ad => simp only [Value.ownBlock, Option.some.injEq] at hk; subst hk; exact (owns_lt hown rfl).1)
  rw [List.length_append, hcz]
  cases pa with
  | none =>
    have hza : za = [] := by
      cases za with
      | nil => rfl
      | cons x xs => obtain ⟨g, off, e, _⟩ := ha 0 (by simp); cases e
    subst hza
    have hself : Below base w w := Below.refl _ _
    obtain ⟨h1, ⟨h2, h3⟩ | ⟨g, c, cur, e1, e2, e3, e4, r⟩⟩ := id hown
    · obtain rfl := List.eq_nil_of_length_eq_zero h3
      cases h2
      exact ⟨none, 0, w, run_append_none0 w _ _ _ i Tryd.underlying22 hi ca, by simpa [cellsE] using hown, hself⟩
    · cases e1
      exact ⟨_, _, w, run_append_none w _ _ _ i Tryd.underlying22 hi _ _ _ ca e4, by simpa [cellsE] using hown, hself⟩
  | some ad =>
    obtain ⟨v', w', h1, h2, h3, _, _⟩ := run_append_own_at (P := Tryd.prog) w base 22 ty 44 i (.agg #[.int .i64 0, .int .i64 0, .int .i64 0, .int .i64 0, .int .i64 0, .int .i64 0]) 6 48 Tryd.underlying22 hi hz hs hb rfl (by decide) _ _ _ hown ad za.length ca (cellsE za) (cellsE_len za) (fun j u hj => evAt_cells ha j u hj) (cellsE_one za) (by unfold maxLen; omega) (by omega) hbase
    obtain ⟨p', c', rfl⟩ := owns_slice h2
    exact ⟨p', c', w', h1, h2, hbl w' h3⟩
theorem wpList_append_row {ops : Array Oper} {rest : List Oper} {o : Oper} {a : Act} {w : World} {Q : Exit → Act → World → Prop} (hgd : o.guard = none) (s x : Operand)
    (ho : o.op = .call { callee := .builtin .append, args := #[s, x], argTypes := #[22, 22] })
    (base : Nat) (pl : Option Addr) (cap : Nat) (l : List Ev) (he : a.eval s = .slice pl l.length cap) (hown : w.ownsRow base 44 6 (.slice pl l.length cap) l.length (cellsE l))
    (pa : Option Addr) (ca : Nat) (za : List Ev) (hx : a.eval x = .slice pa za.length ca) (ha : EvAt w pa za) (hl : l.length + za.length ≤ 10000) (hbase : base ≤ w.heap.size)
    (h : ∀ p' c' w', w'.ownsRow base 44 6 (.slice p' (l ++ za).length c') (l ++ za).length (cellsE (l ++ za)) → Below base w w' → wpList Tryd.prog ops Q rest (a.put o.dst (.slice p' (l ++ za).length c')) w') :
    wpList Tryd.prog ops Q (o :: rest) a w := by
  refine wpList_plain hgd fun K hK => ?_
  obtain ⟨p', c', w', hr, h2, h3⟩ := run_append_row w base o.type pl cap l hown pa ca za ha hl hbase
  unfold Oper.wp execOp
  simp only [ho, resolve, invoke, builtin, Sem.run_bind, Sem.run_pure, Result.andThen_ok, List.map_toArray, List.map_cons, List.map_nil, he, hx, hr]
  exact hK _ _ (h p' c' w' h2 h3)

end Go.Proofs.YtodfkklkgcoddaaDoor.Ss
