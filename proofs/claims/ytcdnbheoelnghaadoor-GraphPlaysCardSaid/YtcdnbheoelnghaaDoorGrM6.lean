/-
  The document's graph: in memory, its places, Lay, what operations leave.
-/
import Derived.Test.YtcdnbheoelnghaaDoorGrM3
import Derived.Laws.OwnMore
namespace Go.Proofs.YtcdnbheoelnghaaDoor.Gra
open Go.RowKit Go.Proofs.YtcdnbheoelnghaaDoor.Opr
open Go.Proofs.YtcdnbheoelnghaaDoor.Row (Chg rowB rowB_none Rd Rd0 cellsZ cellsZ_length cellsZ_at info_parts infoInt owns_lt owns_slice owns_chg owns_block)

/-- A place: its kind, its two numbers, what it has. -/
abbrev Pl := Int × Int × Int × Int
def plC (x : Pl) : List Value := [.int .i64 x.1, .int .i64 x.2.1, .int .i64 x.2.2.1, .int .i64 x.2.2.2]
def cellsP (l : List Pl) : List Value := l.flatMap plC
theorem plC_len (x : Pl) : (plC x).length = 4 := rfl
theorem cellsP_snoc (l : List Pl) (x : Pl) : cellsP (l ++ [x]) = cellsP l ++ plC x := by simp [cellsP]
theorem cellsP_at {l : List Pl} {j t : Nat} (ht : t < 4) {x : Pl} (hx : l[j]? = some x) : (cellsP l)[j * 4 + t]? = (plC x)[t]? := by
  induction l generalizing j with
  | nil => simp at hx
  | cons y l ih =>
    cases j with
    | zero =>
      simp only [List.getElem?_cons_zero, Option.some.injEq] at hx
      subst hx
      simp only [cellsP, List.flatMap_cons, Nat.zero_mul, Nat.zero_add]
      rw [List.getElem?_append_left (by rw [plC_len]; exact ht)]
    | succ j =>
      simp only [List.getElem?_cons_succ] at hx
      have := ih hx
      simp only [cellsP, List.flatMap_cons] at this ⊢
      rw [List.getElem?_append_right (by rw [plC_len]; omega), plC_len, ← this]
      congr 1
      omega
theorem infoPl : (Tryd.prog.info? 75).map (fun i => (i.zero, i.size, i.bytes)) = some (some (.agg #[.int .i64 0, .int .i64 0, .int .i64 0, .int .i64 0]), 4, 32) := by kernel_rfl
theorem four_at {w : World} {a : Nat} {x : Pl} {t : TypeId} (h : a = w.heap.size) : ∀ (j : Nat) (u : Value), (plC x)[j]? = some u → (w.alloc (.cells (plC x).toArray t)).cell? ((⟨a, 0, none⟩ : Addr).add j) = some u := by
  subst h
  intro j u hu
  rw [Addr.add_lit, Nat.zero_add]
  unfold World.cell?
  simp only [World.alloc]
  simp [hu]
/-- append of one place, as a statement. -/
theorem wpList_append_pl {ops : Array Oper} {rest : List Oper} {o : Oper} {a : Act} {w : World} {Q : Exit → Act → World → Prop} (hgd : o.guard = none) (s x : Operand)
    (ho : o.op = .call { callee := .builtin .append, args := #[s, x], argTypes := #[33, 33] })
    (Y : World) (base : Nat) (pl : Option Addr) (cap : Nat) (l : List Pl) (y : Pl) (hw : Y.alloc (.cells (plC y).toArray 75) = w) (he : a.eval s = .slice pl l.length cap) (hown : Y.ownsRow base 75 4 (.slice pl l.length cap) l.length (cellsP l))
    (hx : a.eval x = .slice (some ⟨Y.heap.size, 0, none⟩) 1 1) (hl : l.length ≤ 1000000) (hbase : base ≤ Y.heap.size)
    (h : ∀ p' cap' w', w'.ownsRow base 75 4 (.slice p' (l ++ [y]).length cap') (l ++ [y]).length (cellsP (l ++ [y])) → Below base Y w' → wpList Tryd.prog ops Q rest (a.put o.dst (.slice p' (l ++ [y]).length cap')) w') :
    wpList Tryd.prog ops Q (o :: rest) a w := by
  subst hw
  refine wpList_plain hgd fun K hK => ?_
  obtain ⟨i, hi, hz, hs, hb⟩ := info_parts infoPl
  have hbl : Below Y.heap.size Y (Y.alloc (.cells (plC y).toArray 75)) := (Below.refl _ _).alloc (Nat.le_refl _) _
  have hown2 := owns_block hown (fun g hg => hbl.block g (owns_lt hown hg).2)
  obtain ⟨v', w', hr, h2, h3, _, h5⟩ := run_append_own_at (P := Tryd.prog) (Y.alloc (.cells (plC y).toArray 75)) base 33 o.type 75 i _ 4 32 Tryd.underlying33 hi hz hs hb rfl (by decide) _ _ _ hown2 ⟨Y.heap.size, 0, none⟩ 1 1 (plC y) rfl (four_at rfl) (by simp [plC, Value.oneCell']) (by unfold maxLen; omega) (by omega) (by simp; omega)
  have h2' := h2
  rw [← cellsP_snoc] at h2'
  obtain ⟨p', cap', rfl⟩ := owns_slice h2'
  have hB : Below base Y w' := (hbl.mono hbase).grown h3 (by simp; omega) (by
    intro k hk
    cases pl with
    | none => cases hk
    | some ad => simp only [Value.ownBlock, Option.some.injEq] at hk; subst hk; exact (owns_lt hown rfl).1)
  unfold Oper.wp execOp
  simp only [ho, resolve, invoke, builtin, Sem.run_bind, Sem.run_pure, Result.andThen_ok, List.map_toArray, List.map_cons, List.map_nil, he, hx, hr]
  have hln : (l ++ [y]).length = l.length + 1 := by simp
  rw [← hln] at h2' ⊢
  exact hK _ _ (h p' cap' w' h2' hB)
/-- Does a place stand there? -/
def plB (k m n : Int) (x : Pl) : Bool := x.1 == k && (x.2.1 == m && x.2.2.1 == n)
def atL (L : List Pl) (k m n : Int) : Int := match L.find? (plB k m n) with | some x => x.2.2.2 | none => 0
def layL (L : List Pl) (k m n v : Int) : List Pl := L.filter (fun x => !plB k m n x) ++ if v = 0 then [] else [(k, m, n, v)]
/-- The document's graph in memory. -/
structure Rg (W : World) (M base : Nat) (c : C7) (pz : Option Addr) (cz : Nat) (zs : List Int) (pp : Option Addr) (cp : Nat) (L : List Pl) : Prop where
  cf : CellsAt W M [.int .i64 c.b, .int .i64 c.wd, .int .i64 c.m, .int .i64 c.r, .int .i64 c.ce, .int .i64 c.lg, .int .i64 c.st]
  c7 : W.cell? ⟨M, 7, none⟩ = some (.slice pz zs.length cz)
  c8 : W.cell? ⟨M, 8, none⟩ = some (.slice pp L.length cp)
  fz : ∀ j, W.frozen? ⟨M, j, none⟩ = false
  oz : W.ownsRow base 3 1 (.slice pz zs.length cz) zs.length (cellsZ zs)
  ol : W.ownsRow base 75 4 (.slice pp L.length cp) L.length (cellsP L)
  ap : ∀ x, rowB pz x → ¬ rowB pp x
  ag : ¬ rowB pz M ∧ ¬ rowB pp M
  ge : base ≤ M
def mineR (M : Nat) (pz pp : Option Addr) (x : Nat) : Prop := x = M ∨ rowB pz x ∨ rowB pp x
section
variable {W W' : World} {M base : Nat} {c : C7} {pz pp : Option Addr} {cz cp : Nat} {zs : List Int} {L : List Pl}
theorem Rg.ltM (h : Rg W M base c pz cz zs pp cp L) {x : Nat} (hx : mineR M pz pp x) : base ≤ x ∧ x < W.heap.size := by
  rcases hx with rfl | hx | hx
  · exact ⟨h.ge, lt_of_cell h.c7⟩
  · exact owns_lt h.oz hx
  · exact owns_lt h.ol hx
theorem Rg.chg {S : Nat → Prop} (h : Rg W M base c pz cz zs pp cp L) (hc : Chg S W W') (hS : ∀ x, mineR M pz pp x → ¬ S x) : Rg W' M base c pz cz zs pp cp L where
  cf := fun j v hv => (hc.cell (p := ⟨M, j, none⟩) (show M < _ from lt_of_cell h.c7) (hS _ (.inl rfl))).trans (h.cf j v hv)
  c7 := (hc.cell (p := ⟨M, 7, none⟩) (show M < _ from lt_of_cell h.c7) (hS _ (.inl rfl))).trans h.c7
  c8 := (hc.cell (p := ⟨M, 8, none⟩) (show M < _ from lt_of_cell h.c7) (hS _ (.inl rfl))).trans h.c8
  fz := fun j => (hc.frozen (p := ⟨M, j, none⟩) (show M < _ from lt_of_cell h.c7) (hS _ (.inl rfl))).trans (h.fz j)
  oz := owns_chg h.oz hc (fun g hg => hS g (.inr (.inl hg)))
  ol := owns_chg h.ol hc (fun g hg => hS g (.inr (.inr hg)))
  ap := h.ap
  ag := h.ag
  ge := h.ge
theorem Rg.later (h : Rg W M base c pz cz zs pp cp L) (hb : Below W.heap.size W W') : Rg W' M base c pz cz zs pp cp L :=
  h.chg (S := fun _ => False) (Chg.of_below hb) (fun _ _ e => e)
/-- A place, as it lies. -/
theorem Rg.at (h : Rg W M base c pz cz zs pp cp L) {j : Nat} (hj : j < L.length) : ∃ g x, L[j]? = some x ∧ pp = some ⟨g, 0, none⟩ ∧ W.cell? ⟨g, j * 4, none⟩ = some (.int .i64 x.1) ∧ W.cell? ⟨g, j * 4 + 1, none⟩ = some (.int .i64 x.2.1) ∧ W.cell? ⟨g, j * 4 + 2, none⟩ = some (.int .i64 x.2.2.1) ∧ W.cell? ⟨g, j * 4 + 3, none⟩ = some (.int .i64 x.2.2.2) := by
  have hx : L[j]? = some L[j] := List.getElem?_eq_getElem hj
  obtain ⟨_, ⟨_, h2⟩ | ⟨g, k, cur, e1, e2, e3, e4, e5, e6, e7⟩⟩ := h.ol
  · omega
  · cases e1
    refine ⟨g, L[j], hx, rfl, ?_⟩
    have key : ∀ t, t < 4 → W.cell? ⟨g, j * 4 + t, none⟩ = (plC L[j])[t]? := fun t ht => by
      have h1 := cellsP_at ht hx
      rw [← e7] at h1
      have hlt : j * 4 + t < L.length * 4 := by omega
      rw [List.getElem?_take, if_pos hlt] at h1
      unfold World.cell?
      rw [show (⟨g, j * 4 + t, none⟩ : Addr).block = g from rfl, e3]
      rw [← h1]
      simp
    exact ⟨key 0 (by omega), key 1 (by omega), key 2 (by omega), key 3 (by omega)⟩
end
end Go.Proofs.YtcdnbheoelnghaaDoor.Gra

namespace Go.Proofs.YtcdnbheoelnghaaDoor.Gra
open Go.RowKit Go.Proofs.YtcdnbheoelnghaaDoor.Opr
open Go.Proofs.YtcdnbheoelnghaaDoor.Row (Chg rowB rowB_none Rd Rd0 cellsZ cellsZ_length cellsZ_at info_parts infoInt owns_lt owns_slice owns_chg owns_block owns_base)

theorem atL_found {L : List Pl} {k m n : Int} {i : Nat} {x : Pl} (h : ∀ j, j < i → ∀ y, L[j]? = some y → plB k m n y = false) (hx : L[i]? = some x) (hp : plB k m n x = true) : atL L k m n = x.2.2.2 := by
  have e : L.find? (plB k m n) = some x := by
    obtain ⟨hi, he⟩ := List.getElem?_eq_some_iff.1 hx
    rw [List.find?_eq_some_iff_getElem]
    refine ⟨hp, i, hi, he, fun j hj => ?_⟩
    rw [h j hj _ (List.getElem?_eq_getElem (by omega))]
    rfl
  unfold atL
  rw [e]
theorem atL_none {L : List Pl} {k m n : Int} (h : ∀ j, j < L.length → ∀ y, L[j]? = some y → plB k m n y = false) : atL L k m n = 0 := by
  have e : L.find? (plB k m n) = none := by
    rw [List.find?_eq_none]
    intro x hx
    obtain ⟨i, hi, rfl⟩ := List.mem_iff_getElem.1 hx
    rw [h i hi _ (List.getElem?_eq_getElem hi)]
    decide
  unfold atL
  rw [e]
set_option maxRecDepth 100000 in
set_option maxHeartbeats 2000000 in
theorem at_any {W : World} {M base : Nat} {c : C7} {pz pp : Option Addr} {cz cp : Nat} {zs : List Int} {L : List Pl} (h : Rg W M base c pz cz zs pp cp L) (hl : L.length ≤ 100000) (k m n : Int) :
    Calls Tryd.prog 18 #[.pointer (some ⟨M, 0, none⟩), .int .i64 k, .int .i64 m, .int .i64 n] W fun e w' => e = .returned (.int .i64 (atL L k m n)) ∧ w' = W := by
  have H := Lib.hid h
  have c8 := h.c8
  have l6 : (L.length : Int) ≤ 100000 := by omega
  clear h hl
  go_enter Tryd.func18, Tryd.ntmps18
  go_wp2_with fail
  go_loopw [9] (fun i wr => ∃ j : Nat, j ≤ L.length ∧ i = .int .i64 j ∧ (∀ t, t < j → ∀ y, L[t]? = some y → plB k m n y = false) ∧ wr = W) (fun i _ => L.length - (intOf i).toNat)
  case atStart => exact ⟨0, Nat.zero_le _, rfl, fun t ht => absurd ht (Nat.not_lt_zero _), rfl⟩
  case round =>
    obtain ⟨j, hj, rfl, hno, rfl⟩ := hrel
    have HNO := Lib.hid hno
    clear hno
    have j0 : (0 : Int) ≤ (j : Int) := by omega
    by_cases hlt : j < L.length
    · have j1 : (j : Int) < (L.length : Int) := by omega
      obtain ⟨g, x, hx, hg, c0, c1, c2, c3⟩ := H.out.at hlt
      have HX := Lib.hid hx
      have HNX : Hid (plB k m n x = false → ∀ t, t < j + 1 → ∀ y, L[t]? = some y → plB k m n y = false) := Lib.hid fun hp t ht y hy => by
        by_cases e : t = j
        · subst e
          rw [HX.out] at hy
          cases hy
          exact hp
        · exact HNO.out t (by omega) y hy
      obtain ⟨x0, x1, x2, x3⟩ := x
      simp only at c0 c1 c2 c3
      subst hg
      clear hx
      by_cases h0 : x0 = k
      · by_cases h1 : x1 = m
        · by_cases h2 : x2 = n
          · have HF : Hid (atL L k m n = x3) := Lib.hid (atL_found HNO.out HX.out (by simp [plB, h0, h1, h2]))
            have b0 : (x0 == k) = true := by simp [h0]
            have b1 : (x1 == m) = true := by simp [h1]
            have b2 : (x2 == n) = true := by simp [h2]
            clear h0 h1 h2
            go_wp2_with fail
            go_ret
            exact ⟨by rw [HF.out]; rfl, rfl⟩
          · have HF := Lib.hid (HNX.out (by simp [plB, h2]))
            have b0 : (x0 == k) = true := by simp [h0]
            have b1 : (x1 == m) = true := by simp [h1]
            have b2 : (x2 == n) = false := by simp [h2]
            clear h0 h1 h2
            go_wp2_with fail
            go_roundw
            case rel => exact ⟨j + 1, by omega, by go_num, HF.out, trivial⟩
            case measure => simp [intOf]; omega
        · have HF := Lib.hid (HNX.out (by simp [plB, h1]))
          have b0 : (x0 == k) = true := by simp [h0]
          have b1 : (x1 == m) = false := by simp [h1]
          clear h0 h1
          go_wp2_with fail
          go_roundw
          case rel => exact ⟨j + 1, by omega, by go_num, HF.out, trivial⟩
          case measure => simp [intOf]; omega
      · have HF := Lib.hid (HNX.out (by simp [plB, h0]))
        have b0 : (x0 == k) = false := by simp [h0]
        clear h0
        go_wp2_with fail
        go_roundw
        case rel => exact ⟨j + 1, by omega, by go_num, HF.out, trivial⟩
        case measure => simp [intOf]; omega
    · obtain rfl : j = L.length := by omega
      have HF := Lib.hid (atL_none HNO.out)
      go_wp2_with fail
      go_ret
      exact ⟨by rw [HF.out]; rfl, rfl⟩

/-- What Lay keeps of the first so many. -/
def kpL (L : List Pl) (k m n : Int) (j : Nat) : List Pl := (L.take j).filter fun x => !plB k m n x
theorem kpL_succ {L : List Pl} {k m n : Int} {j : Nat} {x : Pl} (hx : L[j]? = some x) : kpL L k m n (j + 1) = if plB k m n x = true then kpL L k m n j else kpL L k m n j ++ [x] := by
  unfold kpL
  rw [List.take_add_one, hx, List.filter_append]
  by_cases e : plB k m n x = true
  · rw [if_pos e]; simp [e]
  · rw [if_neg e]; simp [e]
theorem kpL_len (L : List Pl) (k m n : Int) (j : Nat) : (kpL L k m n j).length ≤ L.length := by
  unfold kpL
  refine Nat.le_trans (List.length_filter_le _ _) ?_
  rw [List.length_take]
  omega
theorem kpL_all (L : List Pl) (k m n : Int) : kpL L k m n L.length = L.filter fun x => !plB k m n x := by unfold kpL; rw [List.take_length]
/-- What is there when Lay has ended. -/
theorem Rg.lay {W wr : World} {M base : Nat} {c : C7} {pz pp p' : Option Addr} {cz cp cap' : Nat} {zs : List Int} {L L' : List Pl} (h : Rg W M base c pz cz zs pp cp L) (hb : Below W.heap.size W wr) (ho : wr.ownsRow W.heap.size 75 4 (.slice p' L'.length cap') L'.length (cellsP L')) :
    Rg (wr.setCell ⟨M, 8, none⟩ (.slice p' L'.length cap')) M base c pz cz zs p' cap' L' ∧ Chg (fun x => x = M) W (wr.setCell ⟨M, 8, none⟩ (.slice p' L'.length cap')) ∧ ∀ x, rowB p' x → W.heap.size ≤ x := by
  have hC : Chg (fun x => x = M) wr (wr.setCell ⟨M, 8, none⟩ (.slice p' L'.length cap')) := (Chg.refl (fun x => x = M) wr).set (p := ⟨M, 8, none⟩) (.inl rfl) _
  have hl := h.later hb
  have hlM := (h.ltM (.inl rfl)).2
  have hbase : base ≤ W.heap.size := Nat.le_trans h.ge (Nat.le_of_lt hlM)
  have hp' : ∀ x, rowB p' x → W.heap.size ≤ x := fun x hx => (owns_lt ho hx).1
  have hM : ¬ rowB p' M := fun e => by have := hp' M e; omega
  refine ⟨⟨fun j v hv => ?_, ?_, ?_, fun j => ?_, owns_chg hl.oz hC (fun g hg e => by subst e; exact h.ag.1 hg), owns_base hbase (owns_chg ho hC (fun g hg e => by subst e; exact hM hg)), fun x hx e => ?_, ⟨h.ag.1, hM⟩, h.ge⟩, (Chg.of_below hb).trans hC (fun _ e => .inl e), hp'⟩
  · have hj : j < 7 := (List.getElem?_eq_some_iff.1 hv).1
    rw [Row.other (fun e => by injection e with _ e2; omega)]
    exact hl.cf j v hv
  · rw [Row.other (fun e => by injection e with _ e2; omega)]
    exact hl.c7
  · exact Row.same hl.c8
  · rw [World.frozen?_setCell]; exact hl.fz j
  · have := hp' x e
    have := (owns_lt h.oz hx).2
    omega
end Go.Proofs.YtcdnbheoelnghaaDoor.Gra

namespace Go.Proofs.YtcdnbheoelnghaaDoor.Gra
open Go.RowKit Go.Proofs.YtcdnbheoelnghaaDoor.Opr

theorem plB_iff {k m n : Int} {x : Pl} : plB k m n x = true ↔ x.1 = k ∧ x.2.1 = m ∧ x.2.2.1 = n := by
  simp [plB]
theorem atL_lay (L : List Pl) (k m n v k' m' n' : Int) : atL (layL L k m n v) k' m' n' = if k' = k ∧ m' = m ∧ n' = n then v else atL L k' m' n' := by
  unfold atL layL
  rw [List.find?_append, List.find?_filter]
  by_cases h : k' = k ∧ m' = m ∧ n' = n
  · obtain ⟨rfl, rfl, rfl⟩ := h
    rw [if_pos (⟨rfl, rfl, rfl⟩ : k' = k' ∧ m' = m' ∧ n' = n')]
    have e : L.find? (fun a => decide ((!plB k' m' n' a) = true ∧ plB k' m' n' a = true)) = none := by
      rw [List.find?_eq_none]
      intro x _
      cases plB k' m' n' x <;> simp
    rw [e]
    by_cases hv : v = 0
    · subst hv; simp
    · have e3 : (if v = 0 then [] else [(k', m', n', v)] : List Pl) = [(k', m', n', v)] := if_neg hv
      rw [e3]
      simp [plB]
  · rw [if_neg h]
    have e : L.find? (fun a => decide ((!plB k m n a) = true ∧ plB k' m' n' a = true)) = L.find? (plB k' m' n') := by
      congr 1
      funext x
      cases hx : plB k' m' n' x with
      | false => simp
      | true =>
        have h1 := plB_iff.1 hx
        have : plB k m n x = false := by
          rw [Bool.eq_false_iff]
          intro h2
          have := plB_iff.1 h2
          exact h ⟨by rw [← h1.1, this.1], by rw [← h1.2.1, this.2.1], by rw [← h1.2.2, this.2.2]⟩
        simp [this]
    rw [e]
    have e2 : (if v = 0 then [] else [(k, m, n, v)] : List Pl).find? (plB k' m' n') = none := by
      rw [List.find?_eq_none]
      intro x hx
      split at hx
      · cases hx
      · obtain rfl := List.mem_singleton.1 hx
        intro h2
        have := plB_iff.1 h2
        exact h ⟨this.1.symm, this.2.1.symm, this.2.2.symm⟩
    rw [e2]
    cases L.find? (plB k' m' n') <;> rfl
/-- The places are those of a state. -/
structure Rel (s : GSt) (zs : List Int) (L : List Pl) : Prop where
  sz : zs = (List.range s.nO).map fun i => ((s.E (3 + 2 * i)).length : Int)
  nd : L.Pairwise fun x y => ¬ (y.1 = x.1 ∧ y.2.1 = x.2.1 ∧ y.2.2.1 = x.2.2.1)
  nz : ∀ x ∈ L, x.2.2.2 ≠ 0
  kd : ∀ x ∈ L, x.1 = 1 ∨ (x.1 = 2 ∧ x.2.1 = 0) ∨ x.1 = 3
  a1 : ∀ m n, atL L 1 m n = rgI s m n
  a2 : ∀ n, atL L 2 0 n = atI (s.E 2) n
  a3 : ∀ i n, atL L 3 i n = atI (fdI s i) n
theorem lay_nd {L : List Pl} {k m n v : Int} (h : L.Pairwise fun x y => ¬ (y.1 = x.1 ∧ y.2.1 = x.2.1 ∧ y.2.2.1 = x.2.2.1)) : (layL L k m n v).Pairwise fun x y => ¬ (y.1 = x.1 ∧ y.2.1 = x.2.1 ∧ y.2.2.1 = x.2.2.1) := by
  unfold layL
  rw [List.pairwise_append]
  refine ⟨h.filter _, ?_, fun x hx y hy e => ?_⟩
  · split
    · exact .nil
    · exact List.pairwise_singleton _ _
  · split at hy
    · cases hy
    · obtain rfl := List.mem_singleton.1 hy
      have h1 := (List.mem_filter.1 hx).2
      have : plB k m n x = true := plB_iff.2 ⟨e.1.symm, e.2.1.symm, e.2.2.symm⟩
      rw [this] at h1
      cases h1
theorem lay_mem {L : List Pl} {k m n v : Int} {x : Pl} (h : x ∈ layL L k m n v) : x ∈ L ∨ (v ≠ 0 ∧ x = (k, m, n, v)) := by
  unfold layL at h
  rcases List.mem_append.1 h with h | h
  · exact .inl (List.mem_filter.1 h).1
  · split at h
    · cases h
    · rename_i hv; exact .inr ⟨hv, List.mem_singleton.1 h⟩
theorem lay_len (L : List Pl) (k m n v : Int) : (layL L k m n v).length ≤ L.length + 1 := by
  unfold layL
  rw [List.length_append]
  have := List.length_filter_le (fun x => !plB k m n x) L
  split <;> simp <;> omega
theorem Rel.find {s : GSt} {zs : List Int} {L : List Pl} (h : Rel s zs L) {x : Pl} (hx : x ∈ L) : atL L x.1 x.2.1 x.2.2.1 = x.2.2.2 := by
  obtain ⟨i, hi, rfl⟩ := List.mem_iff_getElem.1 hx
  refine atL_found (i := i) (fun j hj y hy => ?_) (List.getElem?_eq_getElem hi) (plB_iff.2 ⟨rfl, rfl, rfl⟩)
  rw [Bool.eq_false_iff]
  intro e
  have h1 := plB_iff.1 e
  have h2 := (List.pairwise_iff_getElem.1 h.nd) j i (by omega) hi hj
  rw [List.getElem?_eq_getElem (by omega)] at hy
  rw [Option.some.inj hy] at h2
  exact h2 ⟨h1.1.symm, h1.2.1.symm, h1.2.2.symm⟩
/-- What registers and cells have is what places of those kinds have. -/
theorem Rel.root {M r nc : Nat} {s : GSt} {zs : List Int} {L : List Pl} (h : Rel s zs L) (_wf : GWf M r nc s) (v : Int) (hv : v ≠ 0) : (∃ x ∈ L, x.1 < 3 ∧ x.2.2.2 = v) ↔ v ∈ rwL s := by
  have hat : ∀ (l : List Int) (n : Int), atI l n = v → v ∈ l := fun l n e => by
    unfold atI at e
    split at e
    · rename_i hn
      rw [List.getD_eq_getElem?_getD, List.getElem?_eq_getElem (by omega)] at e
      rw [← e]
      exact List.getElem_mem _
    · exact absurd e.symm hv
  have hfd : ∀ (k m n : Int), atL L k m n = v → ∃ x ∈ L, x.1 = k ∧ x.2.2.2 = v := fun k m n e => by
    unfold atL at e
    split at e
    · rename_i x hx
      have h1 := List.mem_of_find?_eq_some hx
      have h2 := plB_iff.1 (List.find?_some hx)
      exact ⟨x, h1, h2.1, e⟩
    · exact absurd e.symm hv
  have hix : ∀ (l : List Int), v ∈ l → ∃ n : Nat, n < l.length ∧ atI l n = v := fun l hl => by
    obtain ⟨n, hn, e⟩ := List.mem_iff_getElem.1 hl
    refine ⟨n, hn, ?_⟩
    unfold atI
    rw [if_pos ⟨by omega, by omega⟩, Int.toNat_natCast, List.getD_eq_getElem?_getD, List.getElem?_eq_getElem hn]
    exact e
  constructor
  · rintro ⟨x, hx, hk, rfl⟩
    have h1 := h.find hx
    rcases h.kd x hx with e | ⟨e, e2⟩ | e
    · rw [e, h.a1] at h1
      unfold rgI at h1
      split at h1
      · rename_i hm
        unfold rwL
        exact List.mem_append.2 (.inl (mem_catL.2 ⟨x.2.1.toNat, by omega, hat _ _ h1⟩))
      · exact absurd h1.symm hv
    · rw [e, e2, h.a2] at h1
      unfold rwL
      exact List.mem_append.2 (.inr (hat _ _ h1))
    · omega
  · intro hm
    unfold rwL at hm
    rcases List.mem_append.1 hm with hm | hm
    · obtain ⟨i, hi, hm⟩ := mem_catL.1 hm
      obtain ⟨n, hn, e⟩ := hix _ hm
      have h1 := h.a1 (i : Int) (n : Int)
      unfold rgI at h1
      rw [if_pos ⟨by omega, by omega⟩, Int.toNat_natCast, e] at h1
      obtain ⟨x, hx, hk, hv2⟩ := hfd _ _ _ h1
      exact ⟨x, hx, by omega, hv2⟩
    · obtain ⟨n, hn, e⟩ := hix _ hm
      have h1 := h.a2 (n : Int)
      rw [e] at h1
      obtain ⟨x, hx, hk, hv2⟩ := hfd _ _ _ h1
      exact ⟨x, hx, by omega, hv2⟩
/-- What fields have is what places of their kind have. -/
theorem Rel.edge {M r nc : Nat} {s : GSt} {zs : List Int} {L : List Pl} (h : Rel s zs L) (_wf : GWf M r nc s) (u v : Int) (hv : v ≠ 0) : (∃ x ∈ L, x.1 = 3 ∧ x.2.1 = u ∧ x.2.2.2 = v) ↔ v ∈ fdI s u := by
  constructor
  · rintro ⟨x, hx, hk, hu, rfl⟩
    have h1 := h.find hx
    rw [hk, hu, h.a3] at h1
    unfold atI at h1
    split at h1
    · rename_i hn
      rw [List.getD_eq_getElem?_getD, List.getElem?_eq_getElem (by omega)] at h1
      rw [← h1]
      exact List.getElem_mem _
    · exact absurd h1.symm hv
  · intro hm
    obtain ⟨n, hn, e⟩ := List.mem_iff_getElem.1 hm
    have h1 := h.a3 u (n : Int)
    unfold atI at h1
    rw [if_pos ⟨by omega, by omega⟩, Int.toNat_natCast, List.getD_eq_getElem?_getD, List.getElem?_eq_getElem hn] at h1
    have h2 : atL L 3 u n = v := h1.trans e
    unfold atL at h2
    split at h2
    · rename_i x hx
      have h3 := List.mem_of_find?_eq_some hx
      have h4 := plB_iff.1 (List.find?_some hx)
      exact ⟨x, h3, h4.1, h4.2.1, h2⟩
    · exact absurd h2.symm hv
end Go.Proofs.YtcdnbheoelnghaaDoor.Gra

namespace Go.Proofs.YtcdnbheoelnghaaDoor.Gra
open Go.RowKit Go.Proofs.YtcdnbheoelnghaaDoor.Opr

theorem atI_set {l : List Int} {k v n : Int} (hk : 0 ≤ k ∧ k < l.length) : atI (l.set k.toNat v) n = if n = k then v else atI l n := by
  unfold atI
  rw [List.length_set]
  by_cases h : 0 ≤ n ∧ n < l.length
  · rw [if_pos h, if_pos h, getD_set (by omega)]
    by_cases e : n = k
    · subst e; rw [if_pos rfl, if_pos rfl]
    · rw [if_neg e, if_neg (fun e2 => e (by omega))]
  · rw [if_neg h, if_neg h, if_neg (fun e => h (by omega))]
theorem atI_nil (n : Int) : atI [] n = 0 := by
  unfold atI
  split <;> rfl
theorem atI_zeros (k : Nat) (n : Int) : atI (List.replicate k 0) n = 0 := by
  unfold atI
  split
  · rw [List.getD_eq_getElem?_getD, List.getElem?_replicate]
    split <;> rfl
  · rfl
theorem fdI_set_far {s : GSt} {j k : Nat} {v i : Int} (h : ∀ q : Nat, j ≠ 3 + 2 * q) : fdI (s.set j k v) i = fdI s i := by
  unfold fdI
  show (if 1 ≤ i ∧ i ≤ s.nO then (s.set j k v).E (3 + 2 * (i - 1).toNat) else []) = _
  split
  · exact GSt.set_other s (fun e => h _ e.symm)
  · rfl
theorem Rel.lay1 {s : GSt} {zs : List Int} {L : List Pl} (h : Rel s zs L) {m a v : Int} (hm : 0 ≤ m ∧ m < s.nR) (ha : 0 ≤ a ∧ a < (s.E (4 + 2 * m.toNat)).length) : Rel (s.set (4 + 2 * m.toNat) a.toNat v) zs (layL L 1 m a v) where
  sz := by
    rw [h.sz]
    exact List.map_congr_left fun i _ => by rw [GSt.set_len]
  nd := lay_nd h.nd
  nz := fun x hx => by
    rcases lay_mem hx with h1 | ⟨h1, rfl⟩
    · exact h.nz x h1
    · exact h1
  kd := fun x hx => by
    rcases lay_mem hx with h1 | ⟨h1, rfl⟩
    · exact h.kd x h1
    · exact .inl rfl
  a1 := fun m' n' => by
    rw [atL_lay, h.a1]
    by_cases e : m' = m
    · subst e
      rw [rgI_at (s := s.set (4 + 2 * m'.toNat) a.toNat v) hm, rgI_at hm, GSt.set_same, atI_set ha]
      by_cases e2 : n' = a
      · rw [if_pos ⟨rfl, rfl, e2⟩, if_pos e2]
      · rw [if_neg (fun e => e2 e.2.2), if_neg e2]
    · rw [if_neg (fun e2 => e e2.2.1)]
      exact (rgI_set_far (fun i hi => by omega)).symm
  a2 := fun n => by
    rw [atL_lay, if_neg (fun e => by omega), GSt.set_other s (by omega)]
    exact h.a2 n
  a3 := fun i n => by
    rw [atL_lay, if_neg (fun e => by omega), fdI_set_far (fun q => by omega)]
    exact h.a3 i n
theorem Rel.lay2 {s : GSt} {zs : List Int} {L : List Pl} (h : Rel s zs L) {a v : Int} (ha : 0 ≤ a ∧ a < (s.E 2).length) : Rel (s.set 2 a.toNat v) zs (layL L 2 0 a v) where
  sz := by
    rw [h.sz]
    exact List.map_congr_left fun i _ => by rw [GSt.set_len]
  nd := lay_nd h.nd
  nz := fun x hx => by
    rcases lay_mem hx with h1 | ⟨h1, rfl⟩
    · exact h.nz x h1
    · exact h1
  kd := fun x hx => by
    rcases lay_mem hx with h1 | ⟨h1, rfl⟩
    · exact h.kd x h1
    · exact .inr (.inl ⟨rfl, rfl⟩)
  a1 := fun m' n' => by
    rw [atL_lay, if_neg (fun e => by omega), h.a1]
    exact (rgI_set_far (fun i hi => by omega)).symm
  a2 := fun n => by
    rw [atL_lay, GSt.set_same, atI_set ha, h.a2]
    by_cases e : n = a
    · rw [if_pos ⟨rfl, rfl, e⟩, if_pos e]
    · rw [if_neg (fun e2 => e e2.2.2), if_neg e]
  a3 := fun i n => by
    rw [atL_lay, if_neg (fun e => by omega), fdI_set_far (fun q => by omega)]
    exact h.a3 i n
theorem Rel.lay3 {s : GSt} {zs : List Int} {L : List Pl} (h : Rel s zs L) {u x v : Int} (hu : 1 ≤ u ∧ u ≤ s.nO) (hx : 0 ≤ x ∧ x < (s.E (ob u)).length) : Rel (s.set (ob u) x.toNat v) zs (layL L 3 u x v) where
  sz := by
    rw [h.sz]
    exact List.map_congr_left fun i _ => by rw [GSt.set_len]
  nd := lay_nd h.nd
  nz := fun x hx => by
    rcases lay_mem hx with h1 | ⟨h1, rfl⟩
    · exact h.nz x h1
    · exact h1
  kd := fun x hx => by
    rcases lay_mem hx with h1 | ⟨h1, rfl⟩
    · exact h.kd x h1
    · exact .inr (.inr rfl)
  a1 := fun m' n' => by
    rw [atL_lay, if_neg (fun e => by omega), h.a1]
    exact (rgI_set_far (fun i hi => by unfold ob; omega)).symm
  a2 := fun n => by
    rw [atL_lay, if_neg (fun e => by omega), GSt.set_other s (by unfold ob; omega)]
    exact h.a2 n
  a3 := fun i n => by
    rw [atL_lay, h.a3]
    by_cases e : i = u
    · subst e
      have e1 : fdI (s.set (ob i) x.toNat v) i = (s.E (ob i)).set x.toNat v := by
        unfold fdI
        rw [if_pos (show 1 ≤ i ∧ i ≤ ((s.set (ob i) x.toNat v).nO : Int) from hu)]
        exact GSt.set_same s (ob i) x.toNat v
      have e2 : fdI s i = s.E (ob i) := by unfold fdI; rw [if_pos hu]; rfl
      rw [e1, e2, atI_set hx]
      by_cases e3 : n = x
      · rw [if_pos ⟨rfl, rfl, e3⟩, if_pos e3]
      · rw [if_neg (fun e => e3 e.2.2), if_neg e3]
    · rw [if_neg (fun e2 => e e2.2.1)]
      have e1 : fdI (s.set (ob u) x.toNat v) i = fdI s i := by
        unfold fdI
        show (if 1 ≤ i ∧ i ≤ s.nO then (s.set (ob u) x.toNat v).E (3 + 2 * (i - 1).toNat) else []) = _
        by_cases hi : 1 ≤ i ∧ i ≤ s.nO
        · rw [if_pos hi, if_pos hi]
          exact GSt.set_other s (by unfold ob; omega)
        · rw [if_neg hi, if_neg hi]
      rw [e1]
theorem Rel.add {s : GSt} {zs : List Int} {L : List Pl} (h : Rel s zs L) (x : Nat) : Rel (s.add x) (zs ++ [(x : Int)]) L where
  sz := by
    rw [h.sz]
    show _ = (List.range (s.nO + 1)).map _
    rw [List.range_succ, List.map_append]
    congr 1
    · refine List.map_congr_left fun i hi => ?_
      have := List.mem_range.1 hi
      rw [GSt.add_old _ _ (by omega)]
    · simp only [List.map_cons, List.map_nil]
      rw [GSt.add_new, List.length_replicate]
  nd := h.nd
  nz := h.nz
  kd := h.kd
  a1 := fun m n => by rw [h.a1, rgI_add]
  a2 := fun n => by rw [h.a2, GSt.add_old _ _ (by omega)]
  a3 := fun i n => by
    rw [h.a3]
    unfold fdI
    show _ = atI (if 1 ≤ i ∧ i ≤ ((s.nO + 1 : Nat) : Int) then (s.add x).E (3 + 2 * (i - 1).toNat) else []) n
    by_cases h1 : 1 ≤ i ∧ i ≤ s.nO
    · rw [if_pos h1, if_pos ⟨h1.1, by omega⟩, GSt.add_old _ _ (by omega)]
    · rw [if_neg h1]
      by_cases h2 : i = (s.nO : Int) + 1
      · rw [if_pos ⟨by omega, by omega⟩, show 3 + 2 * (i - 1).toNat = 3 + 2 * s.nO by omega, GSt.add_new, atI_zeros, atI_nil]
      · rw [if_neg (by omega)]
theorem Rel.start (nc r M : Nat) : Rel (s0 nc r M) [] [] where
  sz := by rw [s0_nO]; rfl
  nd := .nil
  nz := fun x hx => by cases hx
  kd := fun x hx => by cases hx
  a1 := fun m n => by
    show 0 = _
    unfold rgI
    split
    · rename_i hm
      rw [s0_nR] at hm
      rw [s0_reg _ _ _ _ (by omega), atI_zeros]
    · rfl
  a2 := fun n => by rw [s0_two, atI_zeros]; rfl
  a3 := fun i n => by
    unfold fdI
    rw [s0_nO, if_neg (by omega), atI_nil]
    rfl
theorem Rel.size {s : GSt} {zs : List Int} {L : List Pl} (h : Rel s zs L) : zs.length = s.nO := by rw [h.sz]; simp
theorem Rel.size_at {s : GSt} {zs : List Int} {L : List Pl} (h : Rel s zs L) {i : Nat} (hi : i < s.nO) : zs.getD i 0 = ((s.E (3 + 2 * i)).length : Int) := by
  rw [h.sz, List.getD_eq_getElem?_getD]
  simp [hi]
end Go.Proofs.YtcdnbheoelnghaaDoor.Gra

namespace Go.Proofs.YtcdnbheoelnghaaDoor.Gra
open Go.RowKit Go.Proofs.YtcdnbheoelnghaaDoor.Opr
open Go.Proofs.YtcdnbheoelnghaaDoor.Row (Chg rowB rowB_none Rd Rd0 cellsZ cellsZ_length cellsZ_at info_parts infoInt owns_lt owns_slice owns_chg owns_block owns_base)

def LayP (W w' : World) (M base : Nat) (c : C7) (pz : Option Addr) (cz : Nat) (zs : List Int) (L : List Pl) : Prop := ∃ p' cap', Rg w' M base c pz cz zs p' cap' L ∧ Chg (fun x => x = M) W w' ∧ ∀ x, rowB p' x → W.heap.size ≤ x
set_option maxRecDepth 100000 in
set_option maxHeartbeats 4000000 in
theorem lay_any {W : World} {M base : Nat} {c : C7} {pz pp : Option Addr} {cz cp : Nat} {zs : List Int} {L : List Pl} (h : Rg W M base c pz cz zs pp cp L) (hl : L.length ≤ 100000) (k m n v : Int) :
    Calls Tryd.prog 29 #[.pointer (some ⟨M, 0, none⟩), .int .i64 k, .int .i64 m, .int .i64 n, .int .i64 v] W fun e w' => e = .returned (.tuple #[]) ∧ LayP W w' M base c pz cz zs (layL L k m n v) := by
  have H := Lib.hid h
  have HLN := Lib.hid hl
  have c8 := h.c8
  have f8 := h.fz 8
  have l6 : (L.length : Int) ≤ 100000 := by omega
  have hlM : M < W.heap.size := (h.ltM (.inl rfl)).2
  clear h hl
  go_enter Tryd.func29, Tryd.ntmps29
  go_wp2_with fail
  go_loopw [10, 11] (fun ov i wr => ∃ (j : Nat) (p : Option Addr) (cap : Nat), j ≤ L.length ∧ i = .int .i64 j ∧ ov = .slice p (kpL L k m n j).length cap ∧ wr.ownsRow W.heap.size 75 4 (.slice p (kpL L k m n j).length cap) (kpL L k m n j).length (cellsP (kpL L k m n j)) ∧ Below W.heap.size W wr) (fun _ i _ => L.length - (intOf i).toNat)
  case atStart => exact ⟨0, none, 0, Nat.zero_le _, rfl, rfl, ⟨rfl, .inl ⟨rfl, rfl⟩⟩, Below.refl _ _⟩
  case round =>
    obtain ⟨j, p, cap, hj, rfl, rfl, ho, hb⟩ := hrel
    have HO := Lib.hid ho
    have HB := Lib.hid hb
    have HRG := Lib.hid (H.out.later hb)
    have c8 := HRG.out.c8
    have f8 := HRG.out.fz 8
    have hlW := hb.size
    have hlM : M < wr.heap.size := by omega
    clear ho hb
    have j0 : (0 : Int) ≤ (j : Int) := by omega
    by_cases hlt : j < L.length
    · have j1 : (j : Int) < (L.length : Int) := by omega
      obtain ⟨g, x, hx, hg, c0, c1, c2, c3⟩ := HRG.out.at hlt
      have hlg : g < wr.heap.size := lt_of_cell c0
      have HKS := Lib.hid (kpL_succ (k := k) (m := m) (n := n) hx)
      have HKL := Lib.hid (kpL_len L k m n j)
      subst hg
      clear hx
      obtain ⟨x0, x1, x2, x3⟩ := x
      simp only at c0 c1 c2 c3
      by_cases hp : x0 = k ∧ x1 = m ∧ x2 = n
      · have HK : Hid (kpL L k m n (j + 1) = kpL L k m n j) := Lib.hid (by rw [HKS.out, if_pos (plB_iff.2 hp)])
        obtain ⟨h0, h1, h2⟩ := hp
        have b0 : (x0 != k) = false := by simp [h0]
        have b1 : (x1 != m) = false := by simp [h1]
        have b2 : (x2 != n) = false := by simp [h2]
        clear h0 h1 h2
        go_wp2_with fail
        go_roundw
        case rel => exact ⟨j + 1, p, cap, by omega, by go_num, by rw [HK.out], by rw [HK.out]; exact HO.out, HB.out⟩
        case measure => simp [intOf]; omega
      · have HK : Hid (kpL L k m n (j + 1) = kpL L k m n j ++ [(x0, x1, x2, x3)]) := Lib.hid (by rw [HKS.out, if_neg (fun e => hp (plB_iff.1 e))])
        have HSZ : Hid ((kpL L k m n j).length ≤ 1000000) := Lib.hid (by have := HKL.out; have := HLN.out; omega)
        have HBS : Hid (W.heap.size ≤ wr.heap.size) := Lib.hid HB.out.size
        generalize kpL L k m n j = l at *
        clear HKS HKL
        by_cases h0 : x0 = k
        · by_cases h1 : x1 = m
          · have h2 : x2 ≠ n := fun e => hp ⟨h0, h1, e⟩
            have b0 : (x0 != k) = false := by simp [h0]
            have b1 : (x1 != m) = false := by simp [h1]
            have b2 : (x2 != n) = true := bne_iff_ne.2 h2
            clear h0 h1 h2 hp
            go_wp2_with (at_builtin; refine wpList_append_pl rfl (.tmp 55) (.tmp 63) rfl wr W.heap.size p cap l (x0, x1, x2, x3) rfl rfl HO.out rfl HSZ.out HBS.out ?_; intro p' c' w3 ho3 hb3; have HO3 := Lib.hid ho3; have HB3 := Lib.hid (HB.out.trans hb3); clear ho3 hb3)
            go_roundw
            case rel => exact ⟨j + 1, p', c', by omega, by go_num, by rw [HK.out]; simp, by rw [HK.out]; exact HO3.out, HB3.out⟩
            case measure => simp [intOf]; omega
          · have b0 : (x0 != k) = false := by simp [h0]
            have b1 : (x1 != m) = true := bne_iff_ne.2 h1
            clear h0 h1 hp
            go_wp2_with (at_builtin; refine wpList_append_pl rfl (.tmp 55) (.tmp 63) rfl wr W.heap.size p cap l (x0, x1, x2, x3) rfl rfl HO.out rfl HSZ.out HBS.out ?_; intro p' c' w3 ho3 hb3; have HO3 := Lib.hid ho3; have HB3 := Lib.hid (HB.out.trans hb3); clear ho3 hb3)
            go_roundw
            case rel => exact ⟨j + 1, p', c', by omega, by go_num, by rw [HK.out]; simp, by rw [HK.out]; exact HO3.out, HB3.out⟩
            case measure => simp [intOf]; omega
        · have b0 : (x0 != k) = true := bne_iff_ne.2 h0
          clear h0 hp
          go_wp2_with (at_builtin; refine wpList_append_pl rfl (.tmp 55) (.tmp 63) rfl wr W.heap.size p cap l (x0, x1, x2, x3) rfl rfl HO.out rfl HSZ.out HBS.out ?_; intro p' c' w3 ho3 hb3; have HO3 := Lib.hid ho3; have HB3 := Lib.hid (HB.out.trans hb3); clear ho3 hb3)
          go_roundw
          case rel => exact ⟨j + 1, p', c', by omega, by go_num, by rw [HK.out]; simp, by rw [HK.out]; exact HO3.out, HB3.out⟩
          case measure => simp [intOf]; omega
    · obtain rfl : j = L.length := by omega
      have HKA := Lib.hid (kpL_all L k m n)
      have HKL := Lib.hid (kpL_len L k m n L.length)
      have HSZ : Hid ((kpL L k m n L.length).length ≤ 1000000) := Lib.hid (by have := HKL.out; have := HLN.out; omega)
      have HBS : Hid (W.heap.size ≤ wr.heap.size) := Lib.hid HB.out.size
      by_cases hv : v = 0
      · have HLL : Hid (layL L k m n v = kpL L k m n L.length) := Lib.hid (by unfold layL; rw [if_pos hv, List.append_nil]; exact HKA.out.symm)
        have bv : (v != 0) = false := by simp [hv]
        have HFI := Lib.hid (H.out.lay HB.out HO.out)
        clear hv HKA HKL
        generalize kpL L k m n L.length = l at *
        go_wp2_with fail
        exact bodyPost_end (results_none rfl _ _ _) rfl ⟨rfl, p, cap, by rw [HLL.out]; exact HFI.out⟩
      · have HLL : Hid (layL L k m n v = kpL L k m n L.length ++ [(k, m, n, v)]) := Lib.hid (by unfold layL; rw [if_neg hv, HKA.out])
        have bv : (v != 0) = true := bne_iff_ne.2 hv
        have HFI := Lib.hid (fun (w3 : World) p' c' h1 h2 => H.out.lay (wr := w3) (p' := p') (cap' := c') (L' := kpL L k m n L.length ++ [(k, m, n, v)]) h1 h2)
        have HF8 : Hid (∀ w3, Below W.heap.size W w3 → w3.cell? ⟨M, 8, none⟩ = some (.slice pp L.length cp) ∧ w3.frozen? ⟨M, 8, none⟩ = false) := Lib.hid fun w3 hb3 => ⟨(H.out.later hb3).c8, (H.out.later hb3).fz 8⟩
        clear hv HKA HKL
        generalize kpL L k m n L.length = l at *
        go_wp2_with (at_builtin; refine wpList_append_pl rfl (.tmp 67) (.tmp 73) rfl wr W.heap.size p cap l (k, m, n, v) rfl rfl HO.out rfl HSZ.out HBS.out ?_; intro p' c' w3 ho3 hb3; have HB3 := Lib.hid (HB.out.trans hb3); have HFI3 := Lib.hid (HFI.out w3 p' c' HB3.out ho3); obtain ⟨c83, f83⟩ := HF8.out w3 HB3.out; clear ho3 hb3)
        go_wp2_with fail
        exact bodyPost_end (results_none rfl _ _ _) rfl ⟨rfl, p', c', by rw [HLL.out]; simpa using HFI3.out⟩
end Go.Proofs.YtcdnbheoelnghaaDoor.Gra

namespace Go.Proofs.YtcdnbheoelnghaaDoor.Gra
open Go.RowKit Go.Proofs.YtcdnbheoelnghaaDoor.Opr
open Go.Proofs.YtcdnbheoelnghaaDoor.Row (Chg rowB rowB_none Rd Rd0 cellsZ cellsZ_length cellsZ_at info_parts infoInt owns_lt owns_slice owns_chg owns_block owns_base)

/-- What an operation leaves of the document's graph: that of a state. -/
def RE (W w' : World) (M base : Nat) (c : C7) (pz pp : Option Addr) (n : Nat) (s' : GSt) : Prop := ∃ pz' cz' zs' pp' cp' L', Rg w' M base c pz' cz' zs' pp' cp' L' ∧ Rel s' zs' L' ∧ L'.length ≤ n + 1 ∧ Chg (mineR M pz pp) W w' ∧ ∀ x, mineR M pz' pp' x → mineR M pz pp x ∨ W.heap.size ≤ x
section
variable {W V w' : World} {M base : Nat} {c : C7} {pz pp : Option Addr} {cz cp : Nat} {zs : List Int} {L : List Pl} {s s' : GSt}
theorem RE.same (h : Rg W M base c pz cz zs pp cp L) (rel : Rel s zs L) (hb : Below W.heap.size W w') : RE W w' M base c pz pp L.length s :=
  ⟨pz, cz, zs, pp, cp, L, h.later hb, rel, Nat.le_succ _, Chg.of_below hb, fun _ hx => .inl hx⟩
theorem RE.lay {k m n v : Int} (_h : Rg W M base c pz cz zs pp cp L) (hb : Below W.heap.size W V) (rel : Rel s' zs (layL L k m n v)) (hE : LayP V w' M base c pz cz zs (layL L k m n v)) : RE W w' M base c pz pp L.length s' := by
  obtain ⟨p', cap', h1, h2, h3⟩ := hE
  have hs := hb.size
  refine ⟨pz, cz, zs, p', cap', _, h1, rel, lay_len L k m n v, (Chg.of_below hb).trans h2 (fun i e => .inl (.inl e)), fun x hx => ?_⟩
  rcases hx with e | e | e
  · exact .inl (.inl e)
  · exact .inl (.inr (.inl e))
  · have := h3 x e
    exact .inr (by omega)
end
theorem RE.lay1 {W V w' : World} {B base : Nat} {b wd lg st : Int} {M r nc : Nat} {pz pp : Option Addr} {cz cp : Nat} {zs : List Int} {L : List Pl} {s : GSt} (h : Rg W B base ⟨b, wd, M, r, nc, lg, st⟩ pz cz zs pp cp L) (rel : Rel s zs L) (wf : GWf M r nc s) (hb : Below W.heap.size W V) {m a v : Int} (hm : 0 ≤ m ∧ m < (M : Int)) (ha : 0 ≤ a ∧ a < (r : Int)) (hE : LayP V w' B base ⟨b, wd, M, r, nc, lg, st⟩ pz cz zs (layL L 1 m a v)) :
    RE W w' B base ⟨b, wd, M, r, nc, lg, st⟩ pz pp L.length (s.set (4 + 2 * m.toNat) a.toNat v) :=
  RE.lay h hb (rel.lay1 (by rw [wf.nR]; exact hm) (by rw [wf.reg m.toNat (by omega)]; exact ha)) hE
theorem RE.lay2 {W V w' : World} {B base : Nat} {b wd lg st : Int} {M r nc : Nat} {pz pp : Option Addr} {cz cp : Nat} {zs : List Int} {L : List Pl} {s : GSt} (h : Rg W B base ⟨b, wd, M, r, nc, lg, st⟩ pz cz zs pp cp L) (rel : Rel s zs L) (wf : GWf M r nc s) (hb : Below W.heap.size W V) {a v : Int} (ha : 0 ≤ a ∧ a < (nc : Int)) (hE : LayP V w' B base ⟨b, wd, M, r, nc, lg, st⟩ pz cz zs (layL L 2 0 a v)) :
    RE W w' B base ⟨b, wd, M, r, nc, lg, st⟩ pz pp L.length (s.set 2 a.toNat v) :=
  RE.lay h hb (rel.lay2 (by rw [wf.cel]; exact ha)) hE
theorem RE.lay3 {W V w' : World} {B base : Nat} {b wd lg st : Int} {M r nc : Nat} {pz pp : Option Addr} {cz cp : Nat} {zs : List Int} {L : List Pl} {s : GSt} (h : Rg W B base ⟨b, wd, M, r, nc, lg, st⟩ pz cz zs pp cp L) (rel : Rel s zs L) (hb : Below W.heap.size W V) {un : Nat} {x v : Int} (hu : un < s.nO) (hx : 0 ≤ x ∧ x < ((s.E (3 + 2 * un)).length : Int)) (hE : LayP V w' B base ⟨b, wd, M, r, nc, lg, st⟩ pz cz zs (layL L 3 ((un : Int) + 1) x v)) :
    RE W w' B base ⟨b, wd, M, r, nc, lg, st⟩ pz pp L.length (s.set (3 + 2 * un) x.toNat v) := by
  have e : ob ((un : Int) + 1) = 3 + 2 * un := by unfold ob; omega
  have h3 := rel.lay3 (u := (un : Int) + 1) (x := x) (v := v) ⟨by omega, by omega⟩ (by rw [e]; exact hx)
  rw [e] at h3
  exact RE.lay h hb h3 hE
theorem Rg.grow {W w3 : World} {B base : Nat} {c : C7} {pz pp p' : Option Addr} {cz cp cap' : Nat} {zs : List Int} {L : List Pl} {x : Int} {o : Obj} {n : Nat} (h : Rg W B base c pz cz zs pp cp L) (hn : zs.length = n)
    (hown : w3.ownsRow base 3 1 (.slice p' (n + 1) cap') (n + 1) (cellsZ zs ++ [.int .i64 x])) (hC : Chg (rowB pz) (W.alloc o) w3) (hR : ∀ k, rowB p' k → rowB pz k ∨ (W.alloc o).heap.size ≤ k) :
    Rg (w3.setCell ⟨B, 7, none⟩ (.slice p' (n + 1) cap')) B base c p' cap' (zs ++ [x]) pp cp L ∧ Chg (mineR B pz pp) W (w3.setCell ⟨B, 7, none⟩ (.slice p' (n + 1) cap')) ∧ ∀ k, mineR B p' pp k → mineR B pz pp k ∨ W.heap.size ≤ k := by
  have hb : Below W.heap.size W (W.alloc o) := (Below.refl _ _).alloc (Nat.le_refl _) _
  have hC1 : Chg (rowB pz) W w3 := (Chg.of_below hb).trans hC (fun _ e => .inl e)
  have hS : Chg (fun k => k = B) w3 (w3.setCell ⟨B, 7, none⟩ (.slice p' (n + 1) cap')) := (Chg.refl (fun k => k = B) w3).set (p := ⟨B, 7, none⟩) (.inl rfl) _
  have hlB : B < W.heap.size := (h.ltM (.inl rfl)).2
  have hR' : ∀ k, rowB p' k → rowB pz k ∨ W.heap.size ≤ k := fun k hk => (hR k hk).imp id (fun e => by rw [World.size_alloc] at e; omega)
  have hpB : ¬ rowB p' B := fun e => by
    rcases hR' B e with h1 | h1
    · exact h.ag.1 h1
    · omega
  have hpp : ∀ k, rowB p' k → ¬ rowB pp k := fun k hk e => by
    rcases hR' k hk with h1 | h1
    · exact h.ap k h1 e
    · have := (owns_lt h.ol e).2; omega
  have hlen : (zs ++ [x]).length = n + 1 := by rw [List.length_append, hn]; rfl
  refine ⟨⟨fun j v hv => ?_, ?_, ?_, fun j => ?_, ?_, ?_, hpp, ⟨hpB, h.ag.2⟩, h.ge⟩, (hC1.mono (fun k e => .inr (.inl e))).trans hS (fun k e => .inl (.inl e)), fun k hk => ?_⟩
  · have hj : j < 7 := (List.getElem?_eq_some_iff.1 hv).1
    rw [Row.other (fun e => by injection e with _ e2; omega)]
    exact (hC1.cell (p := ⟨B, j, none⟩) hlB h.ag.1).trans (h.cf j v hv)
  · rw [hlen]
    exact Row.same ((hC1.cell (p := ⟨B, 7, none⟩) hlB h.ag.1).trans h.c7)
  · rw [Row.other (fun e => by injection e with _ e2; omega)]
    exact (hC1.cell (p := ⟨B, 8, none⟩) hlB h.ag.1).trans h.c8
  · rw [World.frozen?_setCell]
    exact (hC1.frozen (p := ⟨B, j, none⟩) hlB h.ag.1).trans (h.fz j)
  · rw [hlen, Row.cellsZ_snoc]
    exact owns_chg hown hS (fun g hg e => by subst e; exact hpB hg)
  · exact owns_chg (owns_chg h.ol hC1 (fun g hg e => h.ap g e hg)) hS (fun g hg e => by subst e; exact h.ag.2 hg)
  · rcases hk with e | e | e
    · exact .inl (.inl e)
    · exact (hR' k e).imp (fun e => .inr (.inl e)) id
    · exact .inl (.inr (.inr e))
theorem RE.alloc {W V W8 w' : World} {B base : Nat} {b wd lg st : Int} {M r nc : Nat} {pz pp pz' : Option Addr} {cz cp cz' : Nat} {zs : List Int} {L : List Pl} {s : GSt} (_h : Rg W B base ⟨b, wd, M, r, nc, lg, st⟩ pz cz zs pp cp L) (rel : Rel s zs L) (wf : GWf M r nc s) (hb : Below W.heap.size W V) {m a x v : Int} (hm : 0 ≤ m ∧ m < (M : Int)) (ha : 0 ≤ a ∧ a < (r : Int)) (hx : 0 ≤ x ∧ x < 16)
    (_g : Rg W8 B base ⟨b, wd, M, r, nc, lg, st⟩ pz' cz' (zs ++ [x]) pp cp L) (gC : Chg (mineR B pz pp) V W8) (gR : ∀ k, mineR B pz' pp k → mineR B pz pp k ∨ V.heap.size ≤ k) (hE : LayP W8 w' B base ⟨b, wd, M, r, nc, lg, st⟩ pz' cz' (zs ++ [x]) (layL L 1 m a v)) :
    RE W w' B base ⟨b, wd, M, r, nc, lg, st⟩ pz pp L.length ((s.add x.toNat).set (4 + 2 * m.toNat) a.toNat v) := by
  have rel2 := rel.add x.toNat
  rw [show ((x.toNat : Nat) : Int) = x by omega] at rel2
  have hlr : ((s.add x.toNat).E (4 + 2 * m.toNat)).length = r := by rw [GSt.add_old _ _ (by omega)]; exact wf.reg m.toNat (by omega)
  have rel3 := rel2.lay1 (m := m) (a := a) (v := v) (show 0 ≤ m ∧ m < (s.nR : Int) by rw [wf.nR]; exact hm) (by rw [hlr]; exact ha)
  obtain ⟨p', cap', h1, h2, h3⟩ := hE
  have hs := hb.size
  have hs2 := gC.size
  refine ⟨pz', cz', zs ++ [x], p', cap', _, h1, rel3, lay_len L 1 m a v, ((Chg.of_below hb).trans gC (fun _ e => .inl e)).trans h2 (fun i e => .inl (.inl e)), fun k hk => ?_⟩
  rcases hk with e | e | e
  · exact .inl (.inl e)
  · exact (gR k (.inr (.inl e))).imp id (fun e => by omega)
  · have := h3 k e
    exact .inr (by omega)
end Go.Proofs.YtcdnbheoelnghaaDoor.Gra
