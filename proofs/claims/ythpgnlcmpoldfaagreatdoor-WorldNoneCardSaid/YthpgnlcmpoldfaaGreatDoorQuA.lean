/-
  A row with room behind its numbers, wherever it begins; append into its room; queue's longer.
-/
import Derived.Test.YthpgnlcmpoldfaaGreatDoorRow
import Derived.Laws.CopyOwn
namespace Go.Proofs.YthpgnlcmpoldfaaGreatDoor.Qu
open Go.RowKit
open Go.Proofs.YthpgnlcmpoldfaaGreatDoor.Row

/-- A row with room: its numbers, and room for so many in all, all its own. -/
structure Rm (w : World) (base : Nat) (p : Option Addr) (cap : Nat) (l : List Int) : Prop where
  le : l.length ≤ cap
  max : cap ≤ 4194304
  lies : (p = none ∧ cap = 0) ∨ ∃ (g off : Nat) (cur : Array Value), p = some ⟨g, off, none⟩ ∧ base ≤ g ∧ w.heap[g]? = some (.cells cur 3 (0, 0)) ∧ off + cap ≤ cur.size ∧ ∀ j, j < l.length → cur[off + j]? = some (.int .i64 (l.getD j 0))
theorem Rm.nil (w : World) (base : Nat) : Rm w base none 0 [] := ⟨Nat.le_refl _, by omega, .inl ⟨rfl, rfl⟩⟩
theorem Rm.kept {w w' : World} {base cap : Nat} {p : Option Addr} {l : List Int} (h : Rm w base p cap l) (hg : ∀ g, rowB p g → w'.heap[g]? = w.heap[g]?) : Rm w' base p cap l :=
  ⟨h.le, h.max, h.lies.imp id fun ⟨g, off, cur, e, e1, e2, r⟩ => ⟨g, off, cur, e, e1, (hg g (by rw [e]; rfl)).trans e2, r⟩⟩
theorem Rm.lt {w : World} {base cap : Nat} {p : Option Addr} {l : List Int} (h : Rm w base p cap l) {g : Nat} (hg : rowB p g) : base ≤ g ∧ g < w.heap.size := by
  rcases h.lies with ⟨rfl, _⟩ | ⟨g', off, cur, rfl, e1, e2, _⟩
  · cases hg
  · cases hg
    exact ⟨e1, (Array.getElem?_eq_some_iff.1 e2).1⟩
theorem Rm.at {w : World} {base cap : Nat} {p : Option Addr} {l : List Int} (h : Rm w base p cap l) {j : Nat} (hj : j < l.length) : ∃ g off, p = some ⟨g, off, none⟩ ∧ w.cell? ⟨g, off + j, none⟩ = some (.int .i64 (l.getD j 0)) := by
  rcases h.lies with ⟨_, h0⟩ | ⟨g, off, cur, rfl, _, e2, _, r⟩
  · have := h.le; omega
  · exact ⟨g, off, rfl, by simp [World.cell?, e2, r j hj]⟩
theorem Rm.rd {w : World} {base cap : Nat} {p : Option Addr} {l : List Int} (h : Rm w base p cap l) : Rd w p l := by
  rcases h.lies with ⟨rfl, h0⟩ | ⟨g, off, cur, rfl, _, e2, _, r⟩
  · exact .inl ⟨rfl, List.eq_nil_of_length_eq_zero (by have := h.le; omega)⟩
  · exact .inr ⟨g, off, rfl, fun j hj => by simp [World.cell?, e2, r j hj]⟩
/-- Without its first one. -/
theorem Rm.tail {w : World} {base cap g off : Nat} {x : Int} {l : List Int} (h : Rm w base (some ⟨g, off, none⟩) cap (x :: l)) : Rm w base (some ⟨g, off + 1, none⟩) (cap - 1) l := by
  have hle := h.le
  rw [List.length_cons] at hle
  refine ⟨by omega, by have := h.max; omega, .inr ?_⟩
  rcases h.lies with ⟨e, _⟩ | ⟨g', off', cur, e, e1, e2, e3, r⟩
  · cases e
  · cases e
    refine ⟨g, off + 1, cur, rfl, e1, e2, by omega, fun j hj => ?_⟩
    have h2 := r (j + 1) (by rw [List.length_cons]; omega)
    rw [List.getD_cons_succ] at h2
    rw [← h2]
    congr 1
    omega
theorem Rm.last {w : World} {base g off : Nat} {x : Int} {l : List Int} (h : Rm w base (some ⟨g, off, none⟩) 1 (x :: l)) : Rm w base (some ⟨g, off, none⟩) 0 [] ∧ l = [] := by
  have hle := h.le
  rw [List.length_cons] at hle
  refine ⟨⟨Nat.le_refl _, by omega, .inr ?_⟩, List.eq_nil_of_length_eq_zero (by omega)⟩
  rcases h.lies with ⟨e, _⟩ | ⟨g', off', cur, e, e1, e2, e3, r⟩
  · cases e
  · cases e
    exact ⟨g, off, cur, rfl, e1, e2, by omega, fun j hj => by simp at hj⟩

/-- A row's block with one cell laid. -/
def pushed (w : World) (g k : Nat) (cur : Array Value) (x : Value) : World := w.setRow g (cur.toList.take k ++ [x] ++ cur.toList.drop (k + 1)).toArray
section
variable {P : Program} (w : World)
/-- append of one into the room behind a row. -/
theorem run_append_off (t ty e : TypeId) (i : TypeInfo) (ht : P.underlying t = some (.slice e)) (hi : P.info? e = some i) (hs : i.size = 1)
    (g off n cap : Nat) (cur : Array Value) (hg : w.heap[g]? = some (.cells cur e (0, 0)))
    (a : Addr) (c : Nat) (x : Value) (hx : w.cell? a = some x) (h1 : x.oneCell' = true)
    (hroom : n + 1 ≤ cap) (hfit : off + cap ≤ cur.size) :
    (Builtin.append_ #[t, t] ty #[.slice (some ⟨g, off, none⟩) n cap, .slice (some a) 1 c]).run P w =
      .ok (.slice (some ⟨g, off, none⟩) (n + 1) cap) (pushed w g (off + n) cur x) := by
  have hnews : ∀ j u, [x][j]? = some u → w.cell? (a.add j) = some u := by
    intro j u hj
    match j, hj with
    | 0, hj =>
      simp at hj
      subst hj
      simpa [Addr.add] using hx
  have hf := run_firstCells_some (P := P) w i.size 1 a 1 c [x] (by simp [hs]) hnews
  have hst := run_storeCells_at P g (off + n) e [x] 0 cur w hg (by simp; omega) (by simpa using h1)
  rw [hs] at hf
  simp only [Nat.add_zero, List.length_cons, List.length_nil, Nat.zero_add] at hst
  simp [Builtin.append_, run_underlying ht, sizeOf, typeInfo, hi, Builtin.lenOf, hroom, hf, Addr.add_lit, hst, hs, pushed]
theorem wpList_append_off {ops : Array Oper} {rest : List Oper} {o : Oper} {a : Act} {Q : Exit → Act → World → Prop} (hgd : o.guard = none) (s x : Operand) (t : TypeId)
    (ho : o.op = .call { callee := .builtin .append, args := #[s, x], argTypes := #[t, t] })
    (e : TypeId) (i : TypeInfo) (ht : P.underlying t = some (.slice e)) (hi : P.info? e = some i) (hsz : i.size = 1)
    (g off n cap : Nat) (cur : Array Value) (hs : a.eval s = .slice (some ⟨g, off, none⟩) n cap) (hg : w.heap[g]? = some (.cells cur e (0, 0)))
    (ad : Addr) (c : Nat) (u : Value) (hx : a.eval x = .slice (some ad) 1 c) (hu : w.cell? ad = some u) (h1 : u.oneCell' = true) (hroom : n + 1 ≤ cap) (hfit : off + cap ≤ cur.size)
    (h : wpList P ops Q rest (a.put o.dst (.slice (some ⟨g, off, none⟩) (n + 1) cap)) (pushed w g (off + n) cur u)) :
    wpList P ops Q (o :: rest) a w := by
  refine wpList_plain hgd fun K hK => ?_
  have hr := run_append_off (P := P) w t o.type e i ht hi hsz g off n cap cur hg ad c u hu h1 hroom hfit
  unfold Oper.wp execOp
  simp only [ho, resolve, invoke, builtin, Sem.run_bind, Sem.run_pure, Result.andThen_ok, List.map_toArray, List.map_cons, List.map_nil, hs, hx, hr]
  exact hK _ _ h
end
/-- What that leaves. -/
theorem Rm.push {w : World} {base g off cap : Nat} {l : List Int} {cur : Array Value} {x : Int} (hb : base ≤ g) (hg : w.heap[g]? = some (.cells cur 3 (0, 0))) (hr : ∀ j, j < l.length → cur[off + j]? = some (.int .i64 (l.getD j 0)))
    (hroom : l.length + 1 ≤ cap) (hfit : off + cap ≤ cur.size) (hmax : cap ≤ 4194304) :
    Rm (pushed w g (off + l.length) cur (.int .i64 x)) base (some ⟨g, off, none⟩) cap (l ++ [x]) := by
  refine ⟨by simp; omega, hmax, .inr ⟨g, off, _, rfl, hb, setRow_heap w g cur _ _ _ hg, ?_, fun j hj => ?_⟩⟩
  · simp only [List.size_toArray, List.length_append, List.length_take, List.length_drop, Array.length_toList, List.length_cons, List.length_nil]
    omega
  · rw [List.length_append, List.length_cons, List.length_nil] at hj
    have hk : (cur.toList.take (off + l.length)).length = off + l.length := by rw [List.length_take, show cur.toList.length = cur.size from Array.length_toList]; omega
    rw [List.getElem?_toArray]
    by_cases e : j < l.length
    · rw [List.append_assoc, List.getElem?_append_left (by omega), List.getElem?_take, if_pos (by omega), Array.getElem?_toList, hr j e, List.getD_eq_getElem?_getD, List.getD_eq_getElem?_getD, List.getElem?_append_left e]
    · obtain rfl : j = l.length := by omega
      rw [List.append_assoc, List.getElem?_append_right (by omega), hk, Nat.sub_self]
      simp
theorem chg_pushed (w : World) (g k : Nat) (cur : Array Value) (x : Value) : Chg (fun k => k = g) w (pushed w g k cur x) :=
  ⟨rfl, rfl, rfl, by simp [pushed, World.setRow], fun j _ hj => setRow_other w g j _ hj⟩

theorem made_run (W : World) (l c : Nat) (hlc : l ≤ c) (hc : c ≤ 4194304) :
    (Instr.makeSlice 40 (.int .i64 (l : Int)) (.int .i64 (c : Int))).run Tryz.prog W = .ok (.slice (some ⟨W.heap.size, 0, none⟩) l c) (W.alloc (.cells (madeCells #[.int .i64 0] c) 3)) := by
  obtain ⟨i, hi, hz, hs, hb⟩ := info_parts infoInt
  have hr := run_make (P := Tryz.prog) W 40 3 i (.int .i64 0) Tryz.underlying40 hi hz .i64 .i64 l c (by omega) (by omega) (by rw [hb]; omega) (by omega)
  rw [hr, hs]
  simp [Value.cells]

set_option maxHeartbeats 1000000 in
set_option maxRecDepth 1000000 in
/-- queue's longer: a row with one more, in its room, or in a new one. -/
theorem longer_any {base cap : Nat} {p : Option Addr} {l : List Int} (b : Int) (w : World) (h : Rm w base p cap l) (hl : l.length ≤ 1000000) (hbase : base ≤ w.heap.size) :
    Calls Tryz.prog 329 #[.slice p l.length cap, .int .i64 b] w fun e w' => ∃ p' c', e = .returned (.slice p' (l.length + 1) c') ∧ Rm w' base p' c' (l ++ [b]) ∧ Chg (rowB p) w w' ∧ ∀ k, rowB p' k → rowB p k ∨ w.heap.size ≤ k := by
  obtain ⟨i0, hi, hz0, hz1, hz2⟩ := info_parts infoInt
  have hle := h.le
  have hmx := h.max
  by_cases hc : l.length = cap
  · subst hc
    have HMK := Lib.hid (fun W : World => made_run W l.length (2 * l.length + 1) (by omega) (by omega))
    have hsz1 : (Tryz.prog.info? 3).map (·.size) = some 1 := by rw [hi, Option.map_some, hz1]
    have hm2 : 2 * (l.length : Int) + 1 = ((2 * l.length + 1 : Nat) : Int) := by omega
    obtain ⟨ZL, hZL⟩ : ∃ Z, Z = (madeCells #[Value.int .i64 0] (2 * l.length + 1)) := ⟨_, rfl⟩
    have hZs : ZL.size = 2 * l.length + 1 := by rw [hZL]; simp [madeCells]
    have hmk : ∀ W : World, (Instr.makeSlice 40 (.int .i64 (l.length : Int)) (.int .i64 (2 * (l.length : Int) + 1))).run Tryz.prog W = .ok (.slice (some ⟨W.heap.size, 0, none⟩) l.length (2 * l.length + 1)) (W.alloc (.cells ZL 3)) := fun W => by rw [hm2, HMK.out W, hZL]
    have HZ := Lib.hid hZs
    have H := Lib.hid h
    have hpos : 0 < l.length → (some (⟨w.heap.size, 0, none⟩ : Addr)) = some ⟨w.heap.size, 0, none⟩ ∧ ∃ ad, p = some ad ∧ ∀ j v, (cellsZ l)[j]? = some v → (w.alloc (.cells ZL 3)).cell? (ad.add j) = some v := fun hp => by
      refine ⟨rfl, ?_⟩
      obtain ⟨g, off, rfl, _⟩ := H.out.at hp
      refine ⟨_, rfl, fun j v hv => ?_⟩
      have hj : j < l.length := by have := (List.getElem?_eq_some_iff.1 hv).1; rwa [cellsZ_length] at this
      obtain ⟨g', off', e, hc⟩ := H.out.at hj
      cases e
      rw [cellsZ_at l hj] at hv
      cases hv
      rw [Addr.add_lit]
      exact Lib.cell?_alloc_some _ hc
    have HPOS := Lib.hid hpos
    have hb0 : Below w.heap.size w (w.alloc (.cells ZL 3)) := (Below.refl _ w).alloc (Nat.le_refl _) _
    have HB0 := Lib.hid hb0
    have HG0 := Lib.hid (show (w.alloc (.cells ZL 3)).heap[w.heap.size]? = some (.cells ZL.toList.toArray 3 (0, 0)) from heap_alloc_new w _)
    clear h hm2 hZL hZs hpos hb0
    go_enter Tryz.func329, Tryz.ntmps329
    go_wp2_with (refine wpList_copy_splice rfl (.tmp 18) (.tmp 19) 40 40 rfl 3 rfl hsz1 (some ⟨w.heap.size, 0, none⟩) p l.length (2 * l.length + 1) l.length l.length rfl rfl w.heap.size 0 ZL.toList 3 HG0.out (cellsZ l) ?qn (by rw [cellsZ_length]; exact HPOS.out) ?qf ?q1 w.heap.size w HB0.out (Nat.le_refl _) ?_)
    case qn => simp [cellsZ]
    case qf => have := HZ.out; simp [cellsZ]; omega
    case q1 => intro v hv; obtain ⟨x, _, rfl⟩ := List.mem_map.1 hv; rfl
    intro w2 hg2 hb2
    have HB2 := Lib.hid hb2
    have hgw : w.heap.size < w2.heap.size := (Array.getElem?_eq_some_iff.1 hg2.out).1
    have HG := Lib.hid ((Below.heap_alloc w2 (.cells #[.int .i64 b] 3) w.heap.size hgw).trans hg2.out)
    have hsl : 0 + (2 * l.length + 1) ≤ ((splice ZL.toList 0 (cellsZ l)).toArray).size := by
      have := HZ.out
      have e1 : ZL.toList.length = ZL.size := Array.length_toList
      have e2 := cellsZ_length l
      rw [List.size_toArray, length_splice _ _ _ (by omega)]; omega
    have HSL := Lib.hid hsl
    clear hb2 hsl
    go_wp2_with (at_builtin; refine wpList_append_off _ rfl (.tmp 22) (.tmp 24) 40 rfl 3 i0 Tryz.underlying40 hi hz1 w.heap.size 0 l.length (2 * l.length + 1) _ rfl HG.out ⟨w2.heap.size, 0, none⟩ 1 (.int .i64 b) rfl ?_ (by simp [Value.oneCell']) (by omega) HSL.out ?_)
    · simp
    go_wp2
    go_ret
    have hbo : Below w.heap.size w (pushed (w2.alloc (.cells #[.int .i64 b] 3)) w.heap.size (0 + l.length) (splice ZL.toList 0 (cellsZ l)).toArray (.int .i64 b)) := below_setRow (HB2.out.alloc (by omega) _) (Nat.le_refl _) _
    rw [Nat.zero_add] at hbo
    have HP := Rm.push (x := b) (l := l) (off := 0) hbase HG.out (fun j hj => ?_) (by omega) HSL.out (by omega)
    refine ⟨_, _, rfl, by rw [Nat.zero_add] at HP; exact HP, Chg.of_below hbo, fun k hk => .inr (by cases hk; exact Nat.le_refl _)⟩
    have hl2 : j < (cellsZ l).length := by rwa [cellsZ_length]
    rw [Nat.zero_add, List.getElem?_toArray]
    simp only [splice, List.take_zero, List.nil_append]
    rw [List.getElem?_append_left hl2, cellsZ_at l hj]
  · rcases h.lies with ⟨_, h0⟩ | ⟨g, off, cur, rfl, e1, e2, e3, r⟩
    · omega
    · have hne : ((l.length : Int) == (cap : Int)) = false := by rw [beq_eq_false_iff_ne]; omega
      have hgl : g < w.heap.size := (Array.getElem?_eq_some_iff.1 e2).1
      have R := Lib.hid r
      clear r h
      go_enter Tryz.func329, Tryz.ntmps329
      have HG := Lib.hid ((Below.heap_alloc w (.cells #[.int .i64 b] 3) g hgl).trans e2)
      go_wp2_with (at_builtin; refine wpList_append_off _ rfl (.tmp 22) (.tmp 24) 40 rfl 3 i0 Tryz.underlying40 hi hz1 g off l.length cap cur rfl HG.out ⟨w.heap.size, 0, none⟩ 1 (.int .i64 b) rfl ?_ (by simp [Value.oneCell']) (by omega) e3 ?_)
      · simp
      go_wp2
      go_ret
      exact ⟨_, _, rfl, Rm.push e1 HG.out R.out (by omega) e3 hmx, ((Chg.refl (rowB (some ⟨g, off, none⟩)) w).alloc _).trans (chg_pushed _ g _ _ _) (fun i hi => .inl (by rw [hi]; rfl)), fun k hk => .inl hk⟩
end Go.Proofs.YthpgnlcmpoldfaaGreatDoor.Qu
