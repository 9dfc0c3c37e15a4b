/-
  For the law TraceReaches: what is gathered of the edges; which row is asked for.
-/
import Derived.Test.YtpcgmkchflmcmaaGreatDoorTrM5
namespace Go.Proofs.YtpcgmkchflmcmaaGreatDoor.Tr
open Go.RowKit Go.Shelf
open Class (below_drewN)
open Blk (Cfg allP kAt)
open Hp (Ids St Wf Is To Mine bn bnI objL not_mine pkA_len fN fE lE lV)
open Go.Proofs.YtpcgmkchflmcmaaGreatDoor.Row (Chg Rd Rd0 rowB rowB_none cell_of_block frozen_of_block other same cellsZ owns_block owns_chg owns_lt owns_base push_row cellsZ_snoc)
open Go.Proofs.YtpcgmkchflmcmaaGreatDoor.Addr (Tabs)

theorem eA_mem {l : List Int} {q : Nat × Int} (h : q ∈ eA l) : q.1 < l.length ∧ q.2 = l.getD q.1 0 := by
  unfold eA eP at h
  obtain ⟨h1, _⟩ := List.mem_filter.1 h
  obtain ⟨k, hk, rfl⟩ := List.mem_map.1 h1
  exact ⟨List.mem_range.1 hk, rfl⟩
theorem eA_get {l : List Int} {i : Nat} (h : i < (eA l).length) : eK l i < l.length ∧ eV l i = l.getD (eK l i) 0 := by
  have hm : (eA l).getD i (0, 0) ∈ eA l := by rw [List.getD_eq_getElem?_getD, List.getElem?_eq_getElem h]; exact List.getElem_mem h
  exact eA_mem hm
theorem eA_sorted (l : List Int) : (eA l).Pairwise (fun a b => a.1 < b.1) := by
  unfold eA eP
  refine List.Pairwise.filter _ ?_
  rw [List.pairwise_map]
  exact List.pairwise_lt_range
theorem eK_lt {l : List Int} {i j : Nat} (hij : i < j) (h : j < (eA l).length) : eK l i < eK l j := by
  have h1 := List.pairwise_iff_getElem.1 (eA_sorted l) i j (by omega) h hij
  unfold eK
  rw [List.getD_eq_getElem?_getD, List.getD_eq_getElem?_getD, List.getElem?_eq_getElem (show i < (eA l).length by omega), List.getElem?_eq_getElem h]
  exact h1
/-- What is gathered, of the first edges. -/
def gaT (l : List Int) (i : Nat) : List Int := ((eA l).take i).map (·.2)
theorem gaT_all (l : List Int) : gaT l (eA l).length = l.filter fun v => !(v == 0) := by unfold gaT; rw [List.take_length, eA_vals]
theorem gaT_snoc {l : List Int} {i : Nat} (h : i < (eA l).length) : gaT l i ++ [eV l i] = gaT l (i + 1) := (take_next (eA l) h).symm
theorem eA_len (l : List Int) : (eA l).length ≤ l.length := by
  unfold eA eP
  refine Nat.le_trans (List.length_filter_le _ _) ?_
  simp
theorem gaT_len (l : List Int) (i : Nat) : (gaT l i).length ≤ l.length := by
  unfold gaT
  rw [List.length_map, List.length_take]
  have := eA_len l
  omega
/-- The last number that came. -/
def laE (l : List Int) : Nat → Int
  | 0 => -1
  | i + 1 => (eK l i : Int)
theorem laE_lt {l : List Int} {i : Nat} (h : i < (eA l).length) : laE l i < (eK l i : Int) := by
  cases i with
  | zero => show (-1 : Int) < (eK l 0 : Int); omega
  | succ i =>
    have h1 : eK l i < eK l (i + 1) := eK_lt (Nat.lt_succ_self i) h
    show (eK l i : Int) < (eK l (i + 1) : Int)
    omega
theorem fs_edge {s : St} {a : Int} (hw : Wf s) {i : Nat} (h : i < (eA (fs s a)).length) : lV s a (eK (fs s a) i : Nat) = eV (fs s a) i ∧ lE s a (eK (fs s a) i : Nat) = 0 ∧ eK (fs s a) i ≤ 15 := by
  obtain ⟨h1, h2⟩ := eA_get h
  have hb : bnI s a = true := by
    cases e : bnI s a with
    | true => rfl
    | false => rw [fs_no e] at h1; simp at h1
  rw [fs_len hb] at h1
  have h15 := (obj_fN hw hb).1
  exact ⟨by rw [h2, fs_at hb h1], lE_obj hw hb h1, by omega⟩
/-- The row of the last one that is asked for. -/
def wsel (s : St) (a : Int) : Nat → List Int
  | 0 => []
  | i + 1 => if (objL s).getD i 0 = a then tos s i else wsel s a i
theorem wsel_no {s : St} {a : Int} : ∀ n, (∀ i, i < n → (objL s).getD i 0 ≠ a) → wsel s a n = []
  | 0, _ => rfl
  | n + 1, h => by
    rw [wsel, if_neg (h n (Nat.lt_succ_self n))]
    exact wsel_no n (fun i hi => h i (by omega))
theorem wsel_yes {s : St} {a : Int} {j : Nat} : ∀ n, j < n → n ≤ (objL s).length → (objL s).Nodup → (objL s).getD j 0 = a → wsel s a n = tos s j
  | 0, h, _, _, _ => by omega
  | n + 1, h, hn, hd, e => by
    rw [wsel]
    split
    · rename_i e2
      have h1 : (objL s)[n]? = (objL s)[j]? := by
        rw [← e, List.getD_eq_getElem?_getD, List.getD_eq_getElem?_getD, List.getElem?_eq_getElem (show n < (objL s).length by omega), List.getElem?_eq_getElem (show j < (objL s).length by omega)] at e2
        rw [List.getElem?_eq_getElem (show n < (objL s).length by omega), List.getElem?_eq_getElem (show j < (objL s).length by omega)]
        exact congrArg some e2
      have h2 := (List.getElem?_inj (show n < (objL s).length by omega) hd).1 h1
      rw [h2]
    · rename_i e2
      exact wsel_yes n (by
        by_cases e3 : j = n
        · subst e3; exact absurd e e2
        · omega) (by omega) hd e
theorem wsel_all {s : St} {a : Int} (hw : Wf s) (hk : ∀ j, kAt s.ks j < 4) : wsel s a (objL s).length = toL s a := by
  cases hb : bnI s a with
  | true =>
    obtain ⟨i, hi, e⟩ := List.getElem_of_mem ((objL_mem hw hk).2 hb)
    have e2 : (objL s).getD i 0 = a := by rw [List.getD_eq_getElem?_getD, List.getElem?_eq_getElem hi]; exact e
    rw [wsel_yes _ hi (Nat.le_refl _) (objL_nodup hw hk) e2]
    unfold tos
    rw [e2]
  | false =>
    rw [wsel_no _ (fun i hi e => by have := obj_at hw hk hi; rw [e, hb] at this; cases this)]
    unfold toL
    rw [fs_no hb]
    rfl
theorem wsel_len (s : St) (a : Int) : ∀ n, (wsel s a n).length ≤ 15
  | 0 => Nat.zero_le _
  | n + 1 => by
    rw [wsel]
    split
    · exact toL_len _
    · exact wsel_len s a n
/-- A round of the edges: what is gathered, since a world. -/
structure Eg (X : World) (H : Nat) (d0 : Ids) (s : St) (m0 b10 b11 : Nat) (fl : List Int) (O : Nat → Prop) (i : Nat) (Y : World) : Prop where
  ex : ∃ d pg cg, Is Y H d s (m0 + 2 * i) ∧ (∀ k, Mine H d k → Mine H d0 k ∨ X.heap.size ≤ k) ∧ Y.cell? ⟨b10, 0, none⟩ = some (.slice pg (gaT fl i).length cg) ∧ Y.ownsRow X.heap.size 3 1 (.slice pg (gaT fl i).length cg) (gaT fl i).length (cellsZ (gaT fl i)) ∧ (∀ k, rowB pg k → ¬ Mine H d k) ∧ ∀ k, Mine H d k ∨ rowB pg k → k < X.heap.size ∨ O k
  chg : Chg (fun k => Mine H d0 k ∨ k = b10 ∨ k = b11) X Y
  c1 : Y.cell? ⟨b11, 0, none⟩ = some (.int .i64 (laE fl i))
  f0 : Y.frozen? ⟨b10, 0, none⟩ = false
  f1 : Y.frozen? ⟨b11, 0, none⟩ = false
  lt : b10 < X.heap.size ∧ b11 < X.heap.size ∧ b10 ≠ b11 ∧ ¬ Mine H d0 b10 ∧ ¬ Mine H d0 b11
theorem Eg.stab {X : World} {H : Nat} {d0 : Ids} {s : St} {m0 b10 b11 : Nat} {fl : List Int} {O : Nat → Prop} {i : Nat} {Y Y' : World} (h : Eg X H d0 s m0 b10 b11 fl O i Y) (hb : Below X.heap.size Y Y') (hk : ∀ k, O k → Y'.heap[k]? = Y.heap[k]?) : Eg X H d0 s m0 b10 b11 fl O i Y' := by
  obtain ⟨⟨d, pg, cg, h1, h2, h3, h4, h5, h6⟩, hc, c1, f0, f1, hl⟩ := h
  have hX : X.heap.size ≤ Y.heap.size := hc.size
  refine ⟨⟨d, pg, cg, h1.kept (fun k hm => (h6 k (.inl hm)).elim (fun e => hb.block k e) (hk k)) hb.size, h2, (hb.cell (p := ⟨b10, 0, none⟩) hl.1).trans h3, owns_block h4 (fun g hg => (h6 g (.inr hg)).elim (fun e => hb.block g e) (hk g)), h5, h6⟩, hc.trans (T := fun k => X.heap.size ≤ k) ⟨hb.os, hb.tape, hb.output, hb.size, fun k _ h1 => hb.block k (by omega)⟩ (fun k hk => .inr hk), (hb.cell (p := ⟨b11, 0, none⟩) hl.2.1).trans c1, (hb.frozen (p := ⟨b10, 0, none⟩) hl.1).trans f0, (hb.frozen (p := ⟨b11, 0, none⟩) hl.2.1).trans f1, hl⟩
/-- One edge more. -/
theorem Eg.round {X Y w2 : World} {H : Nat} {d0 d : Ids} {s : St} {m0 b10 b11 i cg : Nat} {fl : List Int} {O : Nat → Prop} {pg : Option Addr} (hi : i < (eA fl).length) (hlt : ∀ k, O k → k < Y.heap.size)
    (hgr : ∀ k, Mine H d k → Mine H d0 k ∨ X.heap.size ≤ k) (h10 : Y.cell? ⟨b10, 0, none⟩ = some (.slice pg (gaT fl i).length cg)) (hown : Y.ownsRow X.heap.size 3 1 (.slice pg (gaT fl i).length cg) (gaT fl i).length (cellsZ (gaT fl i))) (hpg : ∀ k, rowB pg k → ¬ Mine H d k)
    (hO : ∀ k, Mine H d k ∨ rowB pg k → k < X.heap.size ∨ O k) (h : Eg X H d0 s m0 b10 b11 fl O i Y) (hT : To Y w2 H d s (m0 + 2 * i + 2)) :
    w2.cell? ⟨b11, 0, none⟩ = some (.int .i64 (laE fl i)) ∧ w2.frozen? ⟨b11, 0, none⟩ = false ∧ (w2.setCell ⟨b11, 0, none⟩ (.int .i64 (eK fl i : Int))).cell? ⟨b10, 0, none⟩ = some (.slice pg (gaT fl i).length cg) ∧
      ((w2.setCell ⟨b11, 0, none⟩ (.int .i64 (eK fl i : Int))).alloc (.cells #[.int .i64 (eV fl i)] 3)).ownsRow X.heap.size 3 1 (.slice pg (gaT fl i).length cg) (gaT fl i).length (cellsZ (gaT fl i)) ∧ X.heap.size ≤ ((w2.setCell ⟨b11, 0, none⟩ (.int .i64 (eK fl i : Int))).alloc (.cells #[.int .i64 (eV fl i)] 3)).heap.size ∧
      ∀ v' w5, w5.ownsRow X.heap.size 3 1 v' ((gaT fl i).length + 1) (cellsZ (gaT fl i) ++ [.int .i64 (eV fl i)]) → ((w2.setCell ⟨b11, 0, none⟩ (.int .i64 (eK fl i : Int))).alloc (.cells #[.int .i64 (eV fl i)] 3)).grownBy w5 (Value.slice pg (gaT fl i).length cg).ownBlock → (v'.ownBlock = (Value.slice pg (gaT fl i).length cg).ownBlock ∨ v'.ownBlock = some ((w2.setCell ⟨b11, 0, none⟩ (.int .i64 (eK fl i : Int))).alloc (.cells #[.int .i64 (eV fl i)] 3)).heap.size) →
        ∃ p' c', v' = .slice p' ((gaT fl i).length + 1) c' ∧ w5.cell? ⟨b10, 0, none⟩ = some (.slice pg (gaT fl i).length cg) ∧ w5.frozen? ⟨b10, 0, none⟩ = false ∧ ∃ O', Turn X.heap.size O O' Y (w5.setCell ⟨b10, 0, none⟩ (.slice p' ((gaT fl i).length + 1) c')) ∧ Eg X H d0 s m0 b10 b11 fl O' (i + 1) (w5.setCell ⟨b10, 0, none⟩ (.slice p' ((gaT fl i).length + 1) c')) := by
  obtain ⟨_, hchg, h11, f0, f1, hl⟩ := h
  obtain ⟨d2, hI2, hC2, hG2⟩ := hT
  have hXY : X.heap.size ≤ Y.heap.size := hchg.size
  have hY2 := hC2.size
  have n10 : ¬ Mine H d b10 := fun e => (hgr _ e).elim hl.2.2.2.1 (fun e => by omega)
  have n11 : ¬ Mine H d b11 := fun e => (hgr _ e).elim hl.2.2.2.2 (fun e => by omega)
  have hpgX : ∀ k, rowB pg k → X.heap.size ≤ k ∧ k < Y.heap.size := fun k hk => owns_lt hown hk
  have a11 : w2.cell? ⟨b11, 0, none⟩ = some (.int .i64 (laE fl i)) := (hC2.cell (p := ⟨b11, 0, none⟩) (by show b11 < _; omega) n11).trans h11
  have g11 : w2.frozen? ⟨b11, 0, none⟩ = false := (hC2.frozen (p := ⟨b11, 0, none⟩) (by show b11 < _; omega) n11).trans f1
  have a10 : w2.cell? ⟨b10, 0, none⟩ = some (.slice pg (gaT fl i).length cg) := (hC2.cell (p := ⟨b10, 0, none⟩) (by show b10 < _; omega) n10).trans h10
  have g10 : w2.frozen? ⟨b10, 0, none⟩ = false := (hC2.frozen (p := ⟨b10, 0, none⟩) (by show b10 < _; omega) n10).trans f0
  have hsz3 : (w2.setCell ⟨b11, 0, none⟩ (.int .i64 (eK fl i : Int))).heap.size = w2.heap.size := by simp [World.setCell]
  have s10 : (w2.setCell ⟨b11, 0, none⟩ (.int .i64 (eK fl i : Int))).cell? ⟨b10, 0, none⟩ = some (.slice pg (gaT fl i).length cg) := (other (fun e => hl.2.2.1 (congrArg Addr.block e).symm)).trans a10
  have t10 : (w2.setCell ⟨b11, 0, none⟩ (.int .i64 (eK fl i : Int))).frozen? ⟨b10, 0, none⟩ = false := (World.frozen?_setCell ..).trans g10
  have s11 : (w2.setCell ⟨b11, 0, none⟩ (.int .i64 (eK fl i : Int))).cell? ⟨b11, 0, none⟩ = some (.int .i64 (eK fl i : Int)) := same a11
  have t11 : (w2.setCell ⟨b11, 0, none⟩ (.int .i64 (eK fl i : Int))).frozen? ⟨b11, 0, none⟩ = false := (World.frozen?_setCell ..).trans g11
  have hC23 : Chg (fun k => k = b11) w2 (w2.setCell ⟨b11, 0, none⟩ (.int .i64 (eK fl i : Int))) := Chg.set (S := fun k => k = b11) (Chg.refl _ _) (.inl rfl) _
  have hC3 : Chg (fun k => Mine H d k ∨ k = b11) Y (w2.setCell ⟨b11, 0, none⟩ (.int .i64 (eK fl i : Int))) := (hC2.mono (fun k e => .inl e)).trans hC23 (fun k e => .inl (.inr e))
  generalize w2.setCell ⟨b11, 0, none⟩ (.int .i64 (eK fl i : Int)) = w3 at *
  have hown3 := owns_chg hown hC3 (fun g hg e => e.elim (hpg g hg) (fun e => by have := hpgX g hg; omega))
  have hb3 : Below w3.heap.size w3 (w3.alloc (.cells #[.int .i64 (eV fl i)] 3)) := (Below.refl _ _).alloc (Nat.le_refl _) _
  refine ⟨a11, g11, s10, owns_block hown3 (fun g hg => Below.heap_alloc _ _ g (owns_lt hown3 hg).2), by rw [World.size_alloc]; omega, fun v' w5 ho hg hat => ?_⟩
  obtain ⟨p', c', rfl, hC5, hR⟩ := push_row hb3 ho hg hat
  have h35 := hC5.size
  have hb10 : w5.heap[b10]? = w3.heap[b10]? := hC5.block b10 (by omega) (fun e => by have := hpgX _ e; omega)
  have hb11 : w5.heap[b11]? = w3.heap[b11]? := hC5.block b11 (by omega) (fun e => by have := hpgX _ e; omega)
  have z10 : w5.cell? ⟨b10, 0, none⟩ = some (.slice pg (gaT fl i).length cg) := (cell_of_block (a := ⟨b10, 0, none⟩) hb10).trans s10
  have y10 : w5.frozen? ⟨b10, 0, none⟩ = false := (frozen_of_block (a := ⟨b10, 0, none⟩) hb10).trans t10
  have z11 : w5.cell? ⟨b11, 0, none⟩ = some (.int .i64 (eK fl i : Int)) := (cell_of_block (a := ⟨b11, 0, none⟩) hb11).trans s11
  have y11 : w5.frozen? ⟨b11, 0, none⟩ = false := (frozen_of_block (a := ⟨b11, 0, none⟩) hb11).trans t11
  have hszW : (w5.setCell ⟨b10, 0, none⟩ (.slice p' ((gaT fl i).length + 1) c')).heap.size = w5.heap.size := by simp [World.setCell]
  have hC2W : Chg (fun k => k = b11 ∨ rowB pg k ∨ k = b10) w2 (w5.setCell ⟨b10, 0, none⟩ (.slice p' ((gaT fl i).length + 1) c')) := ((hC23.mono (fun k e => .inl e)).trans hC5 (fun k e => .inl (.inr (.inl e)))).set (.inl (.inr (.inr rfl))) _
  have hCW : Chg (fun k => Mine H d k ∨ k = b11 ∨ rowB pg k ∨ k = b10) Y (w5.setCell ⟨b10, 0, none⟩ (.slice p' ((gaT fl i).length + 1) c')) := (hC2.mono (fun k e => .inl e)).trans hC2W (fun k e => .inl (.inr e))
  have hm2 : ∀ k, k = b11 ∨ rowB pg k ∨ k = b10 → ¬ Mine H d2 k := fun k hk e => by
    rcases hG2 k e with e2 | e2
    · rcases hk with rfl | hk | rfl
      · exact n11 e2
      · exact hpg k hk e2
      · exact n10 e2
    · rcases hk with rfl | hk | rfl
      · omega
      · have := hpgX k hk; omega
      · omega
  refine ⟨p', c', rfl, z10, y10, fun k => O k ∨ (Y.heap.size ≤ k ∧ (Mine H d2 k ∨ rowB p' k)), ⟨by omega, fun k h1 h2 h3 => ?_, fun k hk => hk.imp id (fun e => e.1), fun k hk => ?_⟩, ⟨⟨d2, p', c', ?_, fun k hk => ?_, ?_, ?_, fun k hk e => ?_, fun k hk => ?_⟩, ?_, (other (fun e => hl.2.2.1 (congrArg Addr.block e))).trans z11, (World.frozen?_setCell ..).trans y10, (World.frozen?_setCell ..).trans y11, hl⟩⟩
  · refine hCW.block k h2 (fun e => ?_)
    rcases e with e | e | e | e
    · exact (hO k (.inl e)).elim (by omega) h3
    · omega
    · exact (hO k (.inr e)).elim (by omega) h3
    · omega
  · rcases hk with e | ⟨_, e | e⟩
    · have := hlt k e; omega
    · have := hI2.lt e; have := hC2W.size; omega
    · have := (owns_lt ho e).2; omega
  · exact (hI2.chg hC2W (fun k hk e => hm2 k e hk)).more (by omega)
  · exact (hG2 k hk).elim (hgr k) (fun e => .inr (by omega))
  · rw [same z10, ← gaT_snoc hi, List.length_append]
    rfl
  · rw [← gaT_snoc hi, cellsZ_snoc, List.length_append]
    exact owns_block ho (fun g hg => Below.heap_setCell w5 _ _ g (fun e => by have := (owns_lt ho hg).1; simp only at e; omega))
  · rcases hR k hk with e2 | e2
    · exact hm2 k (.inr (.inl e2)) e
    · have := hI2.lt e; omega
  · rcases hk with e | e
    · rcases hG2 k e with e2 | e2
      · exact (hO k (.inl e2)).imp id .inl
      · exact .inr (.inr ⟨e2, .inl e⟩)
    · rcases hR k e with e2 | e2
      · exact (hO k (.inr e2)).imp id .inl
      · exact .inr (.inr ⟨by omega, .inr e⟩)
  · refine hchg.trans hCW (fun k e => ?_)
    rcases e with e | e | e | e
    · exact (hgr k e).imp (fun e => .inl e) id
    · exact .inl (.inr (.inr e))
    · exact .inr (hpgX k e).1
    · exact .inl (.inr (.inl e))
end Go.Proofs.YtpcgmkchflmcmaaGreatDoor.Tr
