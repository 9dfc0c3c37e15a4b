/-
  Reach of a graph; what the laws keep of it.
-/
import Derived.Deep.LoopGhost
import Derived.Test.YtcdnbheoelnghaaDoorGrM2
import Derived.WalkMore
import Derived.BigQuiet
namespace Go.Proofs.YtcdnbheoelnghaaDoor.Gra

/-- Reached from roots by fields. -/
inductive Rch (R : List Int) (F : Int → List Int) : Int → Prop
  | root {v : Int} : v ∈ R → Rch R F v
  | step {u v : Int} : Rch R F u → v ∈ F u → v ≠ 0 → Rch R F v
/-- The numbers of flags, rising. -/
def tlL (fl : List Bool) (j : Nat) : List Int := ((List.range j).filter fun n => fl.getD n false).map Int.ofNat
theorem tlL_succ (fl : List Bool) (j : Nat) : tlL fl (j + 1) = if fl.getD j false = true then tlL fl j ++ [(j : Int)] else tlL fl j := by
  unfold tlL
  rw [List.range_succ, List.filter_append, List.map_append]
  by_cases h : fl.getD j false = true
  · rw [if_pos h, List.filter_cons, if_pos h]; rfl
  · rw [if_neg h, List.filter_cons, if_neg h]; simp
theorem tlL_len (fl : List Bool) (j : Nat) : (tlL fl j).length ≤ j := by
  unfold tlL
  rw [List.length_map]
  exact Nat.le_trans (List.length_filter_le _ _) (by rw [List.length_range]; exact Nat.le_refl _)
open Classical in
/-- What is reached, rising. -/
noncomputable def rchL (R : List Int) (F : Int → List Int) (N : Nat) : List Int := ((List.range (N + 1)).filter fun n : Nat => decide (Rch R F (n : Int))).map Int.ofNat
theorem mem_rchL {R : List Int} {F : Int → List Int} {N : Nat} {v : Int} : v ∈ rchL R F N ↔ 0 ≤ v ∧ v ≤ N ∧ Rch R F v := by
  unfold rchL
  simp only [List.mem_map, List.mem_filter, List.mem_range, decide_eq_true_eq]
  constructor
  · rintro ⟨n, ⟨h1, h2⟩, rfl⟩
    exact ⟨Int.natCast_nonneg n, by show (n : Int) ≤ N; omega, h2⟩
  · rintro ⟨h0, h1, h2⟩
    exact ⟨v.toNat, ⟨by omega, by rw [Int.toNat_of_nonneg h0]; exact h2⟩, by show (v.toNat : Int) = v; omega⟩
theorem rchL_len (R : List Int) (F : Int → List Int) (N : Nat) : (rchL R F N).length ≤ N + 1 := by
  unfold rchL
  rw [List.length_map]
  exact Nat.le_trans (List.length_filter_le _ _) (by rw [List.length_range]; exact Nat.le_refl _)
theorem rchL_congr {R R' : List Int} {F F' : Int → List Int} {N : Nat} (h : ∀ n : Nat, n ≤ N → (Rch R F n ↔ Rch R' F' n)) : rchL R F N = rchL R' F' N := by
  unfold rchL
  congr 1
  refine List.filter_congr fun n hn => ?_
  have := List.mem_range.1 hn
  rw [decide_eq_decide]
  exact h n (by omega)
/-- What holds in the search. -/
structure Sch (R : List Int) (F : Int → List Int) (N : Nat) (fl : List Bool) (l : List Int) : Prop where
  len : fl.length = N + 1
  snd : ∀ n : Nat, n ≤ N → fl.getD n false = true → Rch R F (n : Int)
  rts : ∀ v ∈ R, fl.getD v.toNat false = true
  pth : ∀ v ∈ l, 1 ≤ v ∧ v ≤ N ∧ fl.getD v.toNat false = true
  cls : ∀ n : Nat, n ≤ N → fl.getD n false = true → (n : Int) ∉ l → ∀ v ∈ F n, v ≠ 0 → fl.getD v.toNat false = true
theorem getD_set_self {fl : List Bool} {k : Nat} (h : k < fl.length) : (fl.set k true).getD k false = true := by
  simp [List.getD_eq_getElem?_getD, h]
theorem getD_set_ne {fl : List Bool} {k n : Nat} (h : n ≠ k) : (fl.set k true).getD n false = fl.getD n false := by
  simp only [List.getD_eq_getElem?_getD]
  rw [List.getElem?_set_ne (fun e => h e.symm)]
theorem getD_set_up {fl : List Bool} {k n : Nat} (hk : k < fl.length) (h : fl.getD n false = true) : (fl.set k true).getD n false = true := by
  by_cases e : n = k
  · subst e; exact getD_set_self hk
  · rw [getD_set_ne e]; exact h
theorem Sch.start {R : List Int} {F : Int → List Int} {N : Nat} {fl : List Bool} (hl : fl.length = N + 1) (hR : ∀ v ∈ R, 1 ≤ v ∧ v ≤ N) (h : ∀ n : Nat, n ≤ N → (fl.getD n false = true ↔ (n : Int) ∈ R)) : Sch R F N fl R where
  len := hl
  snd := fun n hn hf => .root ((h n hn).1 hf)
  rts := fun v hv => by
    have := hR v hv
    exact (h v.toNat (by omega)).2 (by rw [Int.toNat_of_nonneg (by omega)]; exact hv)
  pth := fun v hv => by
    have := hR v hv
    exact ⟨this.1, this.2, (h v.toNat (by omega)).2 (by rw [Int.toNat_of_nonneg (by omega)]; exact hv)⟩
  cls := fun n hn hf hno => absurd ((h n hn).1 hf) hno
theorem Sch.push {R : List Int} {F : Int → List Int} {N : Nat} {fl : List Bool} {l : List Int} {u v : Int} (h : Sch R F N fl l) (hu : u ∈ l) (hv : v ∈ F u) (h0 : 1 ≤ v) (h1 : v ≤ N) : Sch R F N (fl.set v.toNat true) (l ++ [v]) := by
  have hk : v.toNat < fl.length := by rw [h.len]; omega
  refine ⟨by rw [List.length_set]; exact h.len, fun n hn hf => ?_, fun w hw => getD_set_up hk (h.rts w hw), fun w hw => ?_, fun n hn hf hno w hw hw0 => ?_⟩
  · by_cases e : n = v.toNat
    · subst e
      obtain ⟨a, b, c⟩ := h.pth u hu
      have hru := h.snd u.toNat (by omega) c
      rw [Int.toNat_of_nonneg (by omega)] at hru
      rw [Int.toNat_of_nonneg (by omega)]
      exact .step hru hv (by omega)
    · rw [getD_set_ne e] at hf
      exact h.snd n hn hf
  · rcases List.mem_append.1 hw with h2 | h2
    · obtain ⟨a, b, c⟩ := h.pth w h2
      exact ⟨a, b, getD_set_up hk c⟩
    · obtain rfl := List.mem_singleton.1 h2
      exact ⟨h0, h1, getD_set_self hk⟩
  · have hnv : n ≠ v.toNat := fun e => hno (List.mem_append.2 (.inr (List.mem_singleton.2 (by omega))))
    rw [getD_set_ne hnv] at hf
    exact getD_set_up hk (h.cls n hn hf (fun e => hno (List.mem_append.2 (.inl e))) w hw hw0)
theorem Sch.pop {R : List Int} {F : Int → List Int} {N : Nat} {fl : List Bool} {l : List Int} {u : Int} (h : Sch R F N fl (l ++ [u])) (hf : ∀ v ∈ F u, v ≠ 0 → fl.getD v.toNat false = true) : Sch R F N fl l where
  len := h.len
  snd := h.snd
  rts := h.rts
  pth := fun v hv => h.pth v (List.mem_append.2 (.inl hv))
  cls := fun n hn hfl hno => by
    by_cases e : (n : Int) = u
    · rw [e]; exact hf
    · exact h.cls n hn hfl (fun hm => by
        rcases List.mem_append.1 hm with h2 | h2
        · exact hno h2
        · exact e (List.mem_singleton.1 h2))
theorem Rch.bound {R : List Int} {F : Int → List Int} {N : Nat} (hR : ∀ v ∈ R, 1 ≤ v ∧ v ≤ N) (hF : ∀ u : Int, 1 ≤ u → u ≤ N → ∀ v ∈ F u, 0 ≤ v ∧ v ≤ N) {v : Int} (h : Rch R F v) : 1 ≤ v ∧ v ≤ N := by
  induction h with
  | root h => exact hR _ h
  | step _ h2 h3 ih =>
    have := hF _ ih.1 ih.2 _ h2
    omega
theorem Sch.done {R : List Int} {F : Int → List Int} {N : Nat} {fl : List Bool} (h : Sch R F N fl []) (hR : ∀ v ∈ R, 1 ≤ v ∧ v ≤ N) (hF : ∀ u : Int, 1 ≤ u → u ≤ N → ∀ v ∈ F u, 0 ≤ v ∧ v ≤ N) : tlL fl (N + 1) = rchL R F N := by
  have hall : ∀ v : Int, Rch R F v → fl.getD v.toNat false = true := by
    intro v hv
    induction hv with
    | root h2 => exact h.rts _ h2
    | @step u v h1 h2 h3 ih =>
      have hb := h1.bound hR hF
      have := h.cls u.toNat (by omega) ih (by simp) v
      rw [Int.toNat_of_nonneg (by omega)] at this
      exact this h2 h3
  unfold tlL rchL
  congr 1
  classical
  refine List.filter_congr fun n hn => ?_
  have := List.mem_range.1 hn
  rw [Bool.eq_iff_iff, decide_eq_true_eq]
  exact ⟨h.snd n (by omega), fun hr => hall n hr⟩
/-- How many flags are down. -/
def dnC (fl : List Bool) : Nat := fl.count false
theorem dnC_set {fl : List Bool} {k : Nat} (hk : k < fl.length) (h : fl.getD k false = false) : dnC (fl.set k true) + 1 = dnC fl := by
  unfold dnC
  have e : fl[k] = false := by rw [List.getD_eq_getElem?_getD, List.getElem?_eq_getElem hk] at h; exact h
  have h1 : 0 < fl.count false := List.count_pos_iff.2 (by rw [← e]; exact List.getElem_mem hk)
  rw [List.count_set hk]
  simp only [e]
  simp
  omega
theorem dnC_le (fl : List Bool) : dnC fl ≤ fl.length := List.count_le_length
theorem list_snoc {l : List Int} {n : Nat} (h : l.length = n + 1) : l = l.take n ++ [l.getD n 0] := by
  have hn : n < l.length := by omega
  rw [List.getD_eq_getElem?_getD, List.getElem?_eq_getElem hn, Option.getD_some, List.take_append_getElem hn, List.take_of_length_le (by omega)]
end Go.Proofs.YtcdnbheoelnghaaDoor.Gra

namespace Go.Proofs.YtcdnbheoelnghaaDoor.Gra
open Go.RowKit Go.Proofs.YtcdnbheoelnghaaDoor.Opr
open Go.Proofs.YtcdnbheoelnghaaDoor.Row (Chg rowB Rd Rd0 cellsZ cellsZ_length cellsZ_at info_parts infoInt owns_lt owns_slice owns_chg owns_less)

/-- A row of flags in memory. -/
structure FlA (w : World) (I : Nat) (fl : List Bool) : Prop where
  at_ : ∀ x : Nat, x < fl.length → w.cell? ⟨I, x, none⟩ = some (.bool (fl.getD x false))
  fz : ∀ x : Nat, x < fl.length → w.frozen? ⟨I, x, none⟩ = false
theorem FlA.set {w : World} {I : Nat} {fl : List Bool} (h : FlA w I fl) {y : Nat} (hy : y < fl.length) : FlA (w.setCell ⟨I, y, none⟩ (.bool true)) I (fl.set y true) := by
  refine ⟨fun x hx => ?_, fun x hx => ?_⟩
  · rw [List.length_set] at hx
    by_cases e : x = y
    · subst e
      rw [Row.same (h.at_ x hx), getD_set_self hy]
    · rw [Row.other (fun e2 => e (congrArg Addr.off e2).symm), h.at_ x hx, getD_set_ne e]
  · rw [List.length_set] at hx
    rw [World.frozen?_setCell]; exact h.fz x hx
theorem FlA.below {w w' : World} {I S : Nat} {fl : List Bool} (h : FlA w I fl) (hb : Below S w w') (hI : I < S) : FlA w' I fl :=
  ⟨fun x hx => (hb.cell (p := ⟨I, x, none⟩) hI).trans (h.at_ x hx), fun x hx => (hb.frozen (p := ⟨I, x, none⟩) hI).trans (h.fz x hx)⟩
theorem infoBool : (Tryd.prog.info? 4).map (fun i => (i.zero, i.size, i.bytes)) = some (some (.bool false), 1, 1) := by kernel_rfl
theorem make_bools (n : Nat) (h : n ≤ 2000000) (W : World) :
    (Instr.makeSlice 76 (.int .i64 (n : Int)) (.int .i64 (n : Int))).run Tryd.prog W = .ok (.slice (some ⟨W.heap.size, 0, none⟩) n n) (W.alloc (.cells (madeCells #[.bool false] n) 4)) := by
  obtain ⟨i, hi, hz, hs, hb⟩ := info_parts infoBool
  have hr := run_make (P := Tryd.prog) W 76 4 i (.bool false) Tryd.underlying76 hi hz .i64 .i64 n n (by omega) (by omega) (by rw [hb]; omega) (by omega)
  simp only [Int.toNat_natCast, hs, Nat.mul_one] at hr
  exact hr
theorem FlA.start (w : World) (N : Nat) : FlA (w.alloc (.cells (madeCells #[.bool false] N) 4)) w.heap.size (List.replicate N false) := by
  refine ⟨fun x hx => ?_, fun x hx => by simp⟩
  rw [List.length_replicate] at hx
  have := toList_madeCells_one (.bool false) N
  have h2 : (madeCells #[Value.bool false] N)[x]? = some (.bool false) := by
    rw [← Array.getElem?_toList, this, List.getElem?_replicate]
    simp [hx]
  have h3 : (List.replicate N false).getD x false = false := by
    rw [List.getD_eq_getElem?_getD, List.getElem?_replicate]
    split <;> rfl
  rw [h3]
  simp [h2]
/-- Flags and a path, beside a world. -/
structure Fp (W wr : World) (fl : List Bool) (p : Option Addr) (cap : Nat) (l : List Int) : Prop where
  fl : FlA wr W.heap.size fl
  ow : wr.ownsRow (W.heap.size + 1) 3 1 (.slice p l.length cap) l.length (cellsZ l)
  bl : Below W.heap.size W wr
  sz : W.heap.size + 1 ≤ wr.heap.size
theorem Fp.mark {W wr : World} {fl : List Bool} {p : Option Addr} {cap : Nat} {l : List Int} (h : Fp W wr fl p cap l) {y : Nat} (hy : y < fl.length) : Fp W (wr.setCell ⟨W.heap.size, y, none⟩ (.bool true)) (fl.set y true) p cap l where
  fl := h.fl.set hy
  ow := owns_chg h.ow ((Chg.refl (fun x => x = W.heap.size) wr).set (p := ⟨W.heap.size, y, none⟩) (.inl rfl) _) (fun g hg e => by have := (owns_lt h.ow hg).1; omega)
  bl := h.bl.trans (((Chg.refl (fun x => x = W.heap.size) wr).set (p := ⟨W.heap.size, y, none⟩) (.inl rfl) _).below (fun k hk => by omega) h.bl.size)
  sz := by rw [Row.size_setCell]; exact h.sz
theorem Fp.later {W wr w' : World} {fl : List Bool} {p : Option Addr} {cap : Nat} {l : List Int} (h : Fp W wr fl p cap l) (hb : Below wr.heap.size wr w') : Fp W w' fl p cap l where
  fl := h.fl.below hb (by have := h.sz; omega)
  ow := owns_chg h.ow (Chg.of_below (S := fun _ => False) hb) (fun _ _ e => e)
  bl := h.bl.trans (hb.mono h.bl.size)
  sz := Nat.le_trans h.sz hb.size
theorem Fp.pushed {W wr w' : World} {fl : List Bool} {p p' : Option Addr} {cap cap' : Nat} {l l' : List Int} (h : Fp W wr fl p cap l) (hb : Below (W.heap.size + 1) wr w') (ho : w'.ownsRow (W.heap.size + 1) 3 1 (.slice p' l'.length cap') l'.length (cellsZ l')) : Fp W w' fl p' cap' l' where
  fl := h.fl.below hb (by omega)
  ow := ho
  bl := h.bl.trans (hb.mono (by omega))
  sz := Nat.le_trans h.sz hb.size
theorem Fp.pop {W wr : World} {fl : List Bool} {p : Option Addr} {cap n : Nat} {l : List Int} (h : Fp W wr fl p cap l) (hn : l.length = n + 1) : Fp W wr fl p cap (l.take n) := by
  have ho := h.ow
  obtain ⟨g, rfl⟩ := owns_form ho (by omega)
  have h2 := owns_less ho (m := n) (by omega)
  have e : (l.take n).length = n := by rw [List.length_take]; omega
  refine ⟨h.fl, ?_, h.bl, h.sz⟩
  rw [e, show cellsZ (l.take n) = (cellsZ l).take n by simp [cellsZ, List.map_take]]
  exact h2
theorem Fp.at {W wr : World} {fl : List Bool} {p : Option Addr} {cap j : Nat} {l : List Int} (h : Fp W wr fl p cap l) (hj : j < l.length) : ∃ g, p = some ⟨g, 0, none⟩ ∧ wr.cell? ⟨g, j, none⟩ = some (.int .i64 (l.getD j 0)) := by
  have ho := h.ow
  obtain ⟨g, rfl⟩ := owns_form ho (by omega)
  exact ⟨g, rfl, Row.owns_cell ho j _ (cellsZ_at l hj)⟩
/-- What is reached, of a graph. -/
noncomputable def rcS (s : GSt) : List Int := rchL (rtL s) (fun u => s.E (ob u)) s.nO
end Go.Proofs.YtcdnbheoelnghaaDoor.Gra

namespace Go.Proofs.YtcdnbheoelnghaaDoor.Gra
open Go.RowKit Go.Proofs.YtcdnbheoelnghaaDoor.Opr
open Go.Proofs.YtcdnbheoelnghaaDoor.Row (Chg rowB Rd Rd0 cellsZ cellsZ_length cellsZ_at info_parts infoInt owns_lt owns_slice owns_chg owns_less)

theorem mem_catL {R : Nat → List Int} {n : Nat} {v : Int} : v ∈ catL R n ↔ ∃ i, i < n ∧ v ∈ R i := by
  unfold catL
  simp [List.mem_flatMap]
theorem mem_comp {zs : List Int} {x : Int} (h : x ∈ Lib.compact zs) : x ∈ zs := by
  unfold Lib.compact Lib.compactUpTo at h
  obtain ⟨i, hi, rfl⟩ := List.mem_map.1 h
  have hi' : i < zs.length := List.mem_range.1 (List.mem_filter.1 hi).1
  simp [getElem!_pos, hi']
theorem mem_rt {s : GSt} {v : Int} (h : v ∈ rtL s) : v ∈ rwL s ∧ v ≠ 0 := by
  unfold rtL nzL at h
  obtain ⟨h1, h2⟩ := List.mem_filter.1 h
  have h3 := mem_comp h1
  unfold srt at h3
  exact ⟨List.mem_mergeSort.1 h3, by simpa using h2⟩
theorem row_bound {M r nc : Nat} {s : GSt} (wf : GWf M r nc s) {j : Nat} (hj : s.V j) {v : Int} (h : v ∈ s.E j) : 0 ≤ v ∧ v ≤ s.nO := by
  obtain ⟨k, hk, rfl⟩ := List.mem_iff_getElem.1 h
  have := wf.val j hj k hk
  rw [List.getD_eq_getElem?_getD, List.getElem?_eq_getElem hk] at this
  exact this
theorem rw_bound {M r nc : Nat} {s : GSt} (wf : GWf M r nc s) {v : Int} (h : v ∈ rwL s) : 0 ≤ v ∧ v ≤ s.nO := by
  unfold rwL at h
  rcases List.mem_append.1 h with h | h
  · obtain ⟨i, hi, h⟩ := mem_catL.1 h
    exact row_bound wf (V_reg hi) h
  · exact row_bound wf (V_cells s) h
theorem rt_bound {M r nc : Nat} {s : GSt} (wf : GWf M r nc s) : ∀ v ∈ rtL s, 1 ≤ v ∧ v ≤ s.nO := fun v h => by
  obtain ⟨h1, h2⟩ := mem_rt h
  have := rw_bound wf h1
  omega
theorem fd_bound {M r nc : Nat} {s : GSt} (wf : GWf M r nc s) : ∀ u : Int, 1 ≤ u → u ≤ s.nO → ∀ v ∈ s.E (ob u), 0 ≤ v ∧ v ≤ s.nO := fun u h1 h2 v hv =>
  row_bound wf (.inr (.inl ⟨(u - 1).toNat, by omega, rfl⟩)) hv
theorem rwL_len {M r nc : Nat} {s : GSt} (wf : GWf M r nc s) (hM : M ≤ 4) (hr : r ≤ 5) (hn : nc ≤ 3) : (rwL s).length ≤ 23 := by
  have h1 := catL_bound (R := fun i => s.E (4 + 2 * i)) (n := s.nR) (k := 5) (fun i hi => by rw [wf.reg i (by rw [← wf.nR]; exact hi)]; exact hr)
  have h2 := wf.nR
  unfold rwL
  rw [List.length_append, wf.cel]
  omega
theorem rtL_len {M r nc : Nat} {s : GSt} (wf : GWf M r nc s) (hM : M ≤ 4) (hr : r ≤ 5) (hn : nc ≤ 3) : (rtL s).length ≤ 23 := by
  unfold rtL nzL
  refine Nat.le_trans (List.length_filter_le _ _) (Nat.le_trans (Lib.compact_length_le _) ?_)
  rw [srt_len]
  exact rwL_len wf hM hr hn
theorem take_one {l : List Int} {j : Nat} (h : j < l.length) (n : Int) : n ∈ l.take (j + 1) ↔ n ∈ l.take j ∨ n = l.getD j 0 := by
  rw [List.take_add_one, List.mem_append, List.getElem?_eq_getElem h, List.getD_eq_getElem?_getD, List.getElem?_eq_getElem h]
  simp
/-- The first loop's flags. -/
def Mk (N : Nat) (R : List Int) (j : Nat) (fl : List Bool) : Prop := fl.length = N + 1 ∧ ∀ n : Nat, n ≤ N → (fl.getD n false = true ↔ (n : Int) ∈ R.take j)
theorem Mk.start (N : Nat) (R : List Int) : Mk N R 0 (List.replicate (N + 1) false) := ⟨List.length_replicate, fun n hn => by
  rw [List.getD_eq_getElem?_getD, List.getElem?_replicate]
  have h2 : n < N + 1 := by omega
  simp [h2]⟩
theorem Mk.step {N j : Nat} {R : List Int} {fl : List Bool} (h : Mk N R j fl) (hj : j < R.length) (h1 : 1 ≤ R.getD j 0) (_h2 : R.getD j 0 ≤ N) : Mk N R (j + 1) (fl.set (R.getD j 0).toNat true) := by
  obtain ⟨hl, hf⟩ := h
  refine ⟨by rw [List.length_set]; exact hl, fun n hn => ?_⟩
  rw [take_one hj]
  by_cases e : n = (R.getD j 0).toNat
  · rw [e, getD_set_self (by omega)]
    exact ⟨fun _ => .inr (by omega), fun _ => rfl⟩
  · rw [getD_set_ne e, hf n hn]
    exact ⟨fun h => .inl h, fun h => h.elim id (fun h => absurd h (by omega))⟩
theorem Mk.full {N : Nat} {R : List Int} {fl : List Bool} (h : Mk N R R.length fl) (hR : ∀ v ∈ R, 1 ≤ v ∧ v ≤ N) {F : Int → List Int} : Sch R F N fl R :=
  Sch.start h.1 hR (fun n hn => by rw [h.2 n hn, List.take_length])

set_option maxRecDepth 100000 in
set_option maxHeartbeats 4000000 in
theorem reach_any {c : C7} {W : World} {G : Nat} {P : Nat → Option Addr} {K : Nat → Nat} {s : GSt} {M r nc : Nat} (h : GIs c W G P K s) (wf : GWf M r nc s) (hM : M ≤ 4) (hr : r ≤ 5) (hn : nc ≤ 3) (hN : s.nO ≤ 1000) :
    Calls Tryd.prog 15 #[.pointer (some ⟨G, 0, none⟩)] W (NewR W (rcS s)) := by
  have HG := Lib.hid (fun U (hU : Below W.heap.size W U) => h.later hU)
  have HRT := Lib.hid (fun U (hU : Below W.heap.size W U) => roots_any (h.later hU) wf hM hr hn)
  have HRB := Lib.hid (rt_bound wf)
  have HFB := Lib.hid (fd_bound wf)
  have HRL := Lib.hid (rtL_len wf hM hr hn)
  have HFL := Lib.hid (fun i (hi : i < s.nO) => wf.len i hi)
  have HCT := Lib.hid (count_is h)
  have n0 : (0 : Int) ≤ (s.nO : Int) := Int.natCast_nonneg _
  have n6 : (s.nO : Int) ≤ 1000 := by omega
  have hlG := h.ltG
  have hmk : (Instr.makeSlice 76 (.int .i64 ((s.nO : Int) + 1)) (.int .i64 ((s.nO : Int) + 1))).run Tryd.prog W = .ok (.slice (some ⟨W.heap.size, 0, none⟩) (s.nO + 1) (s.nO + 1)) (W.alloc (.cells (madeCells #[.bool false] (s.nO + 1)) 4)) := make_bools (s.nO + 1) (by omega) W
  obtain ⟨w1, hw1⟩ : ∃ w1, W.alloc (.cells (madeCells #[.bool false] (s.nO + 1)) 4) = w1 := ⟨_, rfl⟩
  rw [hw1] at hmk
  have HA : Hid (Below W.heap.size W w1) := Lib.hid (by rw [← hw1]; exact (Below.refl _ _).alloc (Nat.le_refl _) _)
  have HF1 : Hid (FlA w1 W.heap.size (List.replicate (s.nO + 1) false)) := Lib.hid (by rw [← hw1]; exact FlA.start W (s.nO + 1))
  have HS1 : Hid (w1.heap.size = W.heap.size + 1) := Lib.hid (by rw [← hw1]; simp)
  have HNN := Lib.hid hN
  have HWF := Lib.hid wf
  clear h wf hw1 hM hr hn hN
  have HR1 := Lib.hid (HRT.out w1 HA.out)
  generalize hR : rtL s = R at *
  have HRE := Lib.hid hR
  clear hR
  go_enter Tryd.func15, Tryd.ntmps15
  go_wp2_with fail
  go_step3
  go_wp2_with (first
    | (go_at_call 11; refine HCT.out.mono ?_; rintro e w9 ⟨rfl, hw9⟩; obtain rfl : W = w9 := hw9.symm)
    | (go_at_call 13; refine HR1.out.mono ?_; rintro e w2 ⟨p2, c2, rfl, ho2, hb2⟩; have HO2 := Lib.hid ho2; have HB2 := Lib.hid hb2; clear ho2 hb2))
  have HFP : Hid (Fp W w2 (List.replicate (s.nO + 1) false) p2 c2 R) := Lib.hid ⟨(HF1.out.below HB2.out (by have := HS1.out; omega)), by have h := HO2.out; rw [HS1.out] at h; exact h, HA.out.trans (HB2.out.mono HA.out.size), by have := HB2.out.size; have := HS1.out; omega⟩
  clear HO2 HB2 HR1 HRT hmk
  go_loopw [21] (fun i wr => ∃ (j : Nat) (fl : List Bool), j ≤ R.length ∧ i = .int .i64 j ∧ Mk s.nO R j fl ∧ Fp W wr fl p2 c2 R) (fun i _ => R.length - (intOf i).toNat)
  case atStart => exact ⟨0, _, Nat.zero_le _, rfl, Mk.start _ _, HFP.out⟩
  case round =>
    clear HFP HF1 HA HS1
    obtain ⟨j, fl, hj, rfl, hmk, hfp⟩ := hrel
    have HMK := Lib.hid hmk
    have HFP := Lib.hid hfp
    clear hmk hfp
    have j0 : (0 : Int) ≤ (j : Int) := by omega
    have r23 : (R.length : Int) ≤ 23 := by have := HRL.out; omega
    by_cases hlt : j < R.length
    · have j1 : (j : Int) < (R.length : Int) := by omega
      obtain ⟨g, hg, hc⟩ := HFP.out.at hlt
      have hmem : R.getD j 0 ∈ R := by rw [List.getD_eq_getElem?_getD, List.getElem?_eq_getElem hlt]; exact List.getElem_mem hlt
      have hb := HRB.out _ hmem
      have HST := Lib.hid (HMK.out.step hlt hb.1 hb.2)
      generalize R.getD j 0 = v at *
      obtain ⟨vn, rfl⟩ : ∃ n : Nat, v = n := ⟨v.toNat, by omega⟩
      rw [Int.toNat_natCast] at HST
      have hvl : vn < fl.length := by have := HMK.out.1; omega
      have HMA := Lib.hid (HFP.out.mark hvl)
      have c1 := HFP.out.fl.at_ vn hvl
      have f1 := HFP.out.fl.fz vn hvl
      have v0 : (0 : Int) ≤ (vn : Int) := by omega
      have v1 : (vn : Int) < (s.nO : Int) + 1 := by omega
      clear hmem hb hvl
      subst hg
      go_wp2_with fail
      go_roundw
      case rel => exact ⟨j + 1, _, by omega, by go_num, HST.out, HMA.out⟩
      case measure => simp [intOf]; omega
    · obtain rfl : j = R.length := by omega
      have HSC : Hid (Sch R (fun u => s.E (ob u)) s.nO fl R) := Lib.hid (HMK.out.full HRB.out)
      clear HMK
      go_wp2_with fail
      go_step3
      go_wp2_with fail
      clear j0 r23
      go_loopg [4] (2 * (s.nO + 1) + 23) (fun k pv wr => ∃ (fl : List Bool) (p : Option Addr) (cap : Nat) (l : List Int), pv = .slice p l.length cap ∧ Sch R (fun u => s.E (ob u)) s.nO fl l ∧ Fp W wr fl p cap l ∧ 2 * dnC fl + l.length ≤ k ∧ l.length + dnC fl ≤ s.nO + 24)
      case atStart => exact ⟨fl, p2, c2, R, rfl, HSC.out, HFP.out, by have := dnC_le fl; have := HSC.out.len; have := HRL.out; omega, by have := dnC_le fl; have := HSC.out.len; have := HRL.out; omega⟩
      case round =>
        clear HFP HSC
        obtain ⟨fl, p, cap, l, rfl, hsc, hfp, hk, hd⟩ := hrel
        obtain ⟨gO, rfl⟩ : ∃ gO, gO = gk := ⟨_, rfl⟩
        have HSC := Lib.hid hsc
        have HFP := Lib.hid hfp
        have HK := Lib.hid hk
        have HD := Lib.hid hd
        clear hsc hfp hk hd
        have l24 : (l.length : Int) ≤ 1100 := by have := HD.out; omega
        by_cases hl0 : l.length = 0
        · obtain rfl := List.eq_nil_of_length_eq_zero hl0
          have HTL : Hid (tlL fl (s.nO + 1) = rcS s) := Lib.hid (by rw [HSC.out.done HRB.out HFB.out, ← HRE.out]; rfl)
          have HFN := Lib.hid HSC.out.len
          have HF0 : Hid (Fp W wr fl none 0 []) := Lib.hid ⟨HFP.out.fl, ⟨rfl, .inl ⟨rfl, rfl⟩⟩, HFP.out.bl, HFP.out.sz⟩
          clear HSC HFP HK HD
          rw [List.length_nil]
          go_wp2_with fail
          go_loopw [10, 73] (fun lv i wr => ∃ (t : Nat) (p : Option Addr) (cap : Nat), t ≤ s.nO + 1 ∧ i = .int .i64 t ∧ lv = .slice p (tlL fl t).length cap ∧ Fp W wr fl p cap (tlL fl t)) (fun _ i _ => s.nO + 1 - (intOf i).toNat)
          case atStart => exact ⟨0, none, 0, Nat.zero_le _, rfl, rfl, HF0.out⟩
          case round =>
            clear HF0
            obtain ⟨t, q, qc, ht, rfl, rfl, hfp⟩ := hrel
            have HFP := Lib.hid hfp
            clear hfp
            have t0 : (0 : Int) ≤ (t : Int) := by omega
            have t1001 : (t : Int) ≤ 1001 := by omega
            by_cases hlt : t < s.nO + 1
            · have t1 : (t : Int) < (s.nO : Int) + 1 := by omega
              have c1 := HFP.out.fl.at_ t (by have := HFN.out; omega)
              have HSU := Lib.hid (tlL_succ fl t)
              have HLT : Hid ((tlL fl t).length ≤ 1001) := Lib.hid (Nat.le_trans (tlL_len fl t) (by omega))
              have hlf : W.heap.size < wr.heap.size := HFP.out.sz
              cases hb : fl.getD t false with
              | false =>
                rw [hb] at c1
                have HNX : Hid (Fp W wr fl q qc (tlL fl (t + 1)) ∧ tlL fl (t + 1) = tlL fl t) := Lib.hid (by
                  have e := HSU.out
                  rw [if_neg (by rw [hb]; decide)] at e
                  rw [e]; exact ⟨HFP.out, rfl⟩)
                clear hb HSU
                go_wp2_with fail
                go_roundw
                case rel => exact ⟨t + 1, q, qc, by omega, by go_num, by rw [HNX.out.2], HNX.out.1⟩
                case measure => simp [intOf]; omega
              | true =>
                rw [hb] at c1
                have HNX : Hid (tlL fl (t + 1) = tlL fl t ++ [(t : Int)]) := Lib.hid (by
                  have e := HSU.out
                  rw [if_pos hb] at e
                  exact e)
                have HOW : Hid ((wr.alloc (.cells #[.int .i64 (t : Int)] 3)).ownsRow (W.heap.size + 1) 3 1 (.slice q (tlL fl t).length qc) (tlL fl t).length (cellsZ (tlL fl t))) := Lib.hid (HFP.out.later ((Below.refl _ _).alloc (Nat.le_refl _) _)).ow
                have HRO : Hid (Rd0 (wr.alloc (.cells #[.int .i64 (t : Int)] 3)) (some ⟨wr.heap.size, 0, none⟩) [(t : Int)]) := Lib.hid (fun j hj => by
                  obtain rfl : j = 0 := by simpa using hj
                  exact ⟨_, 0, rfl, by rw [World.cell?_alloc_new]; rfl⟩)
                have HFI : Hid (∀ p' c' w', w'.ownsRow (W.heap.size + 1) 3 1 (.slice p' (tlL fl t ++ [(t : Int)]).length c') (tlL fl t ++ [(t : Int)]).length (cellsZ (tlL fl t ++ [(t : Int)])) → Below (W.heap.size + 1) (wr.alloc (.cells #[.int .i64 (t : Int)] 3)) w' → Fp W w' fl p' c' (tlL fl t ++ [(t : Int)])) := Lib.hid fun p' c' w' h1 h2 => (HFP.out.later ((Below.refl _ _).alloc (Nat.le_refl _) _)).pushed h2 h1
                have hsz : W.heap.size + 1 ≤ (wr.alloc (.cells #[.int .i64 (t : Int)] 3)).heap.size := by rw [World.size_alloc]; omega
                have HSZ := Lib.hid hsz
                clear hb HSU hsz
                go_wp2_with (at_builtin; refine wpList_append_row rfl (.tmp 79) (.tmp 81) rfl (W.heap.size + 1) q qc (tlL fl t) rfl HOW.out (some ⟨wr.heap.size, 0, none⟩) 1 [(t : Int)] rfl HRO.out (by have := HLT.out; simp; omega) HSZ.out ?_; intro p' c' w3 ho3 hb3; have HN3 := Lib.hid (HFI.out p' c' w3 ho3 hb3); clear ho3 hb3)
                go_roundw
                case rel => exact ⟨t + 1, p', c', by omega, by go_num, by rw [HNX.out]; simp, by rw [HNX.out]; exact HN3.out⟩
                case measure => simp [intOf]; omega
            · obtain rfl : t = s.nO + 1 := by omega
              have HEN : Hid (Fp W wr fl q qc (rcS s)) := Lib.hid (by rw [← HTL.out]; exact HFP.out)
              rw [HTL.out]
              have hcst : ((s.nO + 1 : Nat) : Int) = (s.nO : Int) + 1 := by omega
              rw [hcst]
              go_wp2_with fail
              try rw [Exit.noGoto_ret]
              go_ret
              exact ⟨q, qc, rfl, Row.owns_base (by omega) HEN.out.ow, HEN.out.bl⟩
        · obtain ⟨n, hn⟩ : ∃ n, l.length = n + 1 := ⟨l.length - 1, by omega⟩
          have n0' : (0 : Int) ≤ (n : Int) := by omega
          have hnn : ((l.length : Nat) : Int) = (n : Int) + 1 := by omega
          have n1100 : (n : Int) ≤ 1100 := by omega
          have hln : n < l.length := by omega
          obtain ⟨g, hg, hc⟩ := HFP.out.at hln
          have HLS := Lib.hid (list_snoc hn)
          have hmem : l.getD n 0 ∈ l := by rw [List.getD_eq_getElem?_getD, List.getElem?_eq_getElem hln]; exact List.getElem_mem hln
          have HME := Lib.hid hmem
          have HPO := Lib.hid (HFP.out.pop hn)
          have hpu := HSC.out.pth _ hmem
          have HN := Lib.hid hn
          generalize l.getD n 0 = u at *
          obtain ⟨un, rfl⟩ : ∃ k : Nat, u = (k : Int) + 1 := ⟨(u - 1).toNat, by omega⟩
          have hun : un < s.nO := by omega
          have u0 : (0 : Int) ≤ (un : Int) := by omega
          have u1 : (un : Int) < (s.nO : Int) := by omega
          have HOB : Hid (ob ((un : Int) + 1) = 3 + 2 * un) := Lib.hid (by unfold ob; omega)
          have hgi := HG.out wr HFP.out.bl
          obtain ⟨Rw, hR1, hR2⟩ := hgi.rowO hun
          have g7 := hgi.o
          rw [hR1] at g7
          have HFO := Lib.hid (hgi.e _ (V_obj hun))
          have HFB2 := Lib.hid (fun v => HFB.out ((un : Int) + 1) (by omega) (by omega) v)
          have hfl := HFL.out un hun
          rw [HOB.out] at HFB2
          have f15 : ((s.E (3 + 2 * un)).length : Int) ≤ 15 := by omega
          generalize hF : s.E (3 + 2 * un) = F at *
          have HFE := Lib.hid hF
          have hlW : W.heap.size < wr.heap.size := HFP.out.sz
          have hsw : ((un : Int) + 1 - 1) = (un : Int) := by omega
          clear hmem hpu hgi hF hfl hn hl0
          subst hg
          have hcap : n ≤ cap := by have := (Row.owns_cap HFP.out.ow).1; have := HN.out; omega
          go_wp2_with fail
          go_quiet (fail)
          go_wp2_with fail
          have HFQ := Lib.hid (HFP.out.later (below_drewN (Below.refl _ wr) nq))
          have HPQ := Lib.hid (HPO.out.later (below_drewN (Below.refl _ wr) nq))
          have HFO2 := Lib.hid (owns_chg HFO.out (Chg.of_below (S := fun _ => False) (below_drewN (Below.refl _ wr) nq)) (fun _ _ e => e))
          generalize wr.drewN nq = wq at *
          clear HFP HPO HFO g7 hc hR1 hR2
          go_loopg [4, 47] F.length (fun k pv iv wx => ∃ t : Nat, t + k = F.length ∧ pv = .slice (some ⟨g, 0, none⟩) l.length cap ∧ iv = .int .i64 t ∧ (∀ i, i < t → F.getD i 0 ≠ 0 → fl.getD (F.getD i 0).toNat false = true) ∧ wx = wq)
          case atStart => exact ⟨0, by omega, rfl, rfl, fun i hi => absurd hi (Nat.not_lt_zero _), rfl⟩
          case round =>
            obtain ⟨t, htk, rfl, rfl, hdone, rfl⟩ := hrel
            have HDN := Lib.hid hdone
            clear hdone
            have t0 : (0 : Int) ≤ (t : Int) := by omega
            by_cases hlt : t < F.length
            · have t1 : (t : Int) < (F.length : Int) := by omega
              obtain ⟨q0, hq0⟩ := owns_form HFO2.out (by omega)
              have HFO3 := HFO2.out
              rw [hq0] at HFO3
              have hc := Row.owns_cell HFO3 t _ (cellsZ_at F hlt)
              have hmem : F.getD t 0 ∈ F := by rw [List.getD_eq_getElem?_getD, List.getElem?_eq_getElem hlt]; exact List.getElem_mem hlt
              have hvb := HFB2.out _ hmem
              have HST : Hid (∀ (b : Prop), (F.getD t 0 ≠ 0 → fl.getD (F.getD t 0).toNat false = true) → ∀ i, i < t + 1 → F.getD i 0 ≠ 0 → fl.getD (F.getD i 0).toNat false = true) := Lib.hid fun _ h i hi h0 => by
                by_cases e : i = t
                · subst e; exact h h0
                · exact HDN.out i (by omega) h0
              have HME2 : Hid (F.getD t 0 ∈ F) := Lib.hid hmem
              generalize F.getD t 0 = v at *
              obtain ⟨vn, rfl⟩ : ∃ k : Nat, v = k := ⟨v.toNat, by omega⟩
              have v0 : (0 : Int) ≤ (vn : Int) := by omega
              have v1 : (vn : Int) < (s.nO : Int) + 1 := by omega
              have v1000 : (vn : Int) ≤ 1000 := by omega
              have hvl : vn < fl.length := by have := HSC.out.len; omega
              rw [Int.toNat_natCast] at HST
              have c1 := HFQ.out.fl.at_ vn hvl
              have f1 := HFQ.out.fl.fz vn hvl
              have HVL := Lib.hid hvl
              have HLW : Hid (W.heap.size < wr.heap.size) := Lib.hid HFQ.out.sz
              have hlw := HLW.out
              clear HFO3 hmem hvb hvl
              by_cases hv0 : (vn : Int) = 0
              · have hvz : ((vn : Int) != 0) = false := by simp [hv0]
                have HN2 := Lib.hid (HST.out True (fun h => absurd hv0 h))
                clear hv0
                go_wp2_with fail
                go_roundg (gk - 1)
                case measure => omega
                case rel => exact ⟨t + 1, by omega, rfl, by go_num, HN2.out, rfl⟩
              · have hvz : ((vn : Int) != 0) = true := bne_iff_ne.2 hv0
                have HV0 := Lib.hid hv0
                clear hv0
                cases hb : fl.getD vn false with
                | true =>
                  rw [hb] at c1
                  have HN2 := Lib.hid (HST.out True (fun _ => hb))
                  clear hb
                  go_wp2_with fail
                  go_roundg (gk - 1)
                  case measure => omega
                  case rel => exact ⟨t + 1, by omega, rfl, by go_num, HN2.out, rfl⟩
                | false =>
                  rw [hb] at c1
                  obtain ⟨w3, hw3⟩ : ∃ w3, wr.setCell ⟨W.heap.size, vn, none⟩ (.bool true) = w3 := ⟨_, rfl⟩
                  have HM := Lib.hid (HFQ.out.mark HVL.out)
                  have HC := Lib.hid (dnC_set HVL.out hb)
                  rw [hw3] at HM
                  have HPS := Lib.hid (HSC.out.push HME.out (by rw [HOB.out, HFE.out]; exact HME2.out) (show (1 : Int) ≤ (vn : Int) by have := HV0.out; omega) (by omega))
                  rw [Int.toNat_natCast] at HPS
                  have HOW : Hid ((w3.alloc (.cells #[.int .i64 (vn : Int)] 3)).ownsRow (W.heap.size + 1) 3 1 (.slice (some ⟨g, 0, none⟩) l.length cap) l.length (cellsZ l)) := Lib.hid (HM.out.later ((Below.refl _ _).alloc (Nat.le_refl _) _)).ow
                  have HRO : Hid (Rd0 (w3.alloc (.cells #[.int .i64 (vn : Int)] 3)) (some ⟨w3.heap.size, 0, none⟩) [(vn : Int)]) := Lib.hid (fun j hj => by
                    obtain rfl : j = 0 := by simpa using hj
                    exact ⟨_, 0, rfl, by rw [World.cell?_alloc_new]; rfl⟩)
                  have HFI : Hid (∀ p' c' w', w'.ownsRow (W.heap.size + 1) 3 1 (.slice p' (l ++ [(vn : Int)]).length c') (l ++ [(vn : Int)]).length (cellsZ (l ++ [(vn : Int)])) → Below (W.heap.size + 1) (w3.alloc (.cells #[.int .i64 (vn : Int)] 3)) w' → Fp W w' (fl.set vn true) p' c' (l ++ [(vn : Int)])) := Lib.hid fun p' c' w' h1 h2 => (HM.out.later ((Below.refl _ _).alloc (Nat.le_refl _) _)).pushed h2 h1
                  have HSZ : Hid (W.heap.size + 1 ≤ (w3.alloc (.cells #[.int .i64 (vn : Int)] 3)).heap.size) := Lib.hid (by rw [World.size_alloc]; have := HM.out.sz; omega)
                  have HL1 : Hid (l.length + 1 ≤ 1048576) := Lib.hid (by have := HN.out; omega)
                  clear hb
                  go_wp2_with (at_builtin; refine wpList_append_row rfl (.tmp 63) (.tmp 65) rfl (W.heap.size + 1) (some ⟨g, 0, none⟩) cap l rfl HOW.out (some ⟨w3.heap.size, 0, none⟩) 1 [(vn : Int)] rfl HRO.out HL1.out HSZ.out ?_; intro p' c' w4 ho3 hb3; have HN3 := Lib.hid (HFI.out p' c' w4 ho3 hb3); clear ho3 hb3)
                  go_roundg (gO - 1)
                  case measure => have := HK.out; have := HC.out; have := HN.out; omega
                  case rel => exact ⟨_, p', c', _, by first | rfl | simp, HPS.out, HN3.out, by rw [List.length_append]; have := HK.out; have := HC.out; simp only [List.length_singleton]; omega, by rw [List.length_append]; have := HD.out; have := HC.out; simp only [List.length_singleton]; omega⟩
            · obtain rfl : t = F.length := by omega
              have HPP : Hid (Sch R (fun u => s.E (ob u)) s.nO fl (l.take n)) := Lib.hid (by
                refine Sch.pop (u := (un : Int) + 1) (by rw [← HLS.out]; exact HSC.out) ?_
                rw [HOB.out, HFE.out]
                intro v hv h0
                obtain ⟨i, hi, rfl⟩ := List.mem_iff_getElem.1 hv
                have := HDN.out i hi
                rw [List.getD_eq_getElem?_getD, List.getElem?_eq_getElem hi] at this
                exact this h0)
              have HLT : Hid ((l.take n).length = n) := Lib.hid (by rw [List.length_take]; have := HN.out; omega)
              go_wp2_with fail
              go_roundg (gO - 1)
              case measure => have := HK.out; have := HN.out; omega
              case rel => exact ⟨fl, _, cap, _, by rw [HLT.out], HPP.out, HPQ.out, by rw [HLT.out]; have := HK.out; have := HN.out; omega, by rw [HLT.out]; have := HD.out; have := HN.out; omega⟩
end Go.Proofs.YtcdnbheoelnghaaDoor.Gra

namespace Go.Proofs.YtcdnbheoelnghaaDoor.Gra
open Go.RowKit Go.Proofs.YtcdnbheoelnghaaDoor.Opr
open Go.Proofs.YtcdnbheoelnghaaDoor.Row (Chg rowB Rd Rd0 cellsZ cellsZ_length cellsZ_at info_parts infoInt owns_lt owns_slice owns_chg)

set_option maxRecDepth 100000 in
set_option maxHeartbeats 1000000 in
theorem in_any (p : Option Addr) (cp : Nat) (l : List Int) (x : Int) (w : World) (hp : Rd0 w p l) (hl : l.length ≤ 1048576) :
    Calls Tryd.prog 22 #[.slice p l.length cp, .int .i64 x] w fun e w' => e = .returned (.bool (decide (x ∈ l))) ∧ w = w' := by
  have HP := Lib.hid hp
  clear hp
  go_enter Tryd.func22, Tryd.ntmps22
  go_wp2
  go_loopw [5] (fun i wr => ∃ c : Nat, c ≤ l.length ∧ i = .int .i64 c ∧ x ∉ l.take c ∧ w = wr) (fun i _ => l.length - (intOf i).toNat)
  case atStart => exact ⟨0, by omega, rfl, by simp, rfl⟩
  case round =>
    obtain ⟨c, hc, rfl, hno, rfl⟩ := hrel
    have HNO := Lib.hid hno
    clear hno
    by_cases hlt : c < l.length
    · obtain ⟨b, off, rfl, h1⟩ := HP.out c hlt
      have i0 : (0 : Int) ≤ (c : Int) := Int.natCast_nonneg _
      have i1 : (c : Int) < (l.length : Int) := by omega
      have hget : l[c]? = some (l.getD c 0) := by rw [List.getD_eq_getElem?_getD]; simp [hlt]
      have hmem : l.getD c 0 ∈ l := List.mem_of_getElem? hget
      have HGET := Lib.hid hget
      have HMEM := Lib.hid hmem
      clear hget hmem
      generalize l.getD c 0 = y at *
      by_cases he : y = x
      · subst he
        have hyy : (y == y) = true := by simp
        have hd : decide (y ∈ l) = true := by simpa using HMEM.out
        go_wp2
        go_ret
        exact ⟨by rw [hd]; rfl, rfl⟩
      · have hyx : (y == x) = false := by simpa using he
        have hn2 : x ∉ l.take (c + 1) := by
          rw [List.take_add_one, HGET.out]
          simp only [Option.toList_some, List.mem_append, List.mem_singleton]
          exact fun h => h.elim HNO.out (fun e => he e.symm)
        have HN2 := Lib.hid hn2
        clear hn2
        go_wp2
        go_roundw
        case rel => exact ⟨c + 1, by omega, by go_num, HN2.out, trivial⟩
        case measure => simp [intOf]; omega
    · have hd : decide (x ∈ l) = false := by
        have := HNO.out
        rw [List.take_of_length_le (by omega)] at this
        simpa using this
      go_wp2
      go_ret
      exact ⟨by rw [hd]; rfl, rfl⟩


theorem Gx.reach {w wr : World} {bx : List (List Value)} {c : C7} {G : Nat} {s : GSt} {M r nc : Nat} (h : Gx w wr bx c G s M r nc) (hM : M ≤ 4) (hr : r ≤ 5) (hn : nc ≤ 3) (hN : s.nO ≤ 1000) (V : World) (hV : Below wr.heap.size wr V) :
    Calls Tryd.prog 15 #[.pointer (some ⟨G, 0, none⟩)] V (NewR V (rcS s)) := by
  obtain ⟨P, K, h⟩ := h.later hV
  exact reach_any h.is h.wf hM hr hn hN
theorem rcS_len (s : GSt) : (rcS s).length ≤ s.nO + 1 := rchL_len _ _ _
/-- A graph beside boxes and a row. -/
def Gi (w wr : World) (bx : List (List Value)) (c : C7) (G : Nat) (s : GSt) (M r nc : Nat) (p : Option Addr) (l : List Int) : Prop := ∃ P K, Gb w wr bx c G P K s M r nc ∧ Rd wr p l ∧ (∀ g, rowB p g → ¬ mine G P g) ∧ ∀ g, rowB p g → g < wr.heap.size
section
variable {w wr w' : World} {bx : List (List Value)} {c : C7} {G : Nat} {s : GSt} {M r nc : Nat} {p : Option Addr} {l : List Int}
theorem Gi.gx (h : Gi w wr bx c G s M r nc p l) : Gx w wr bx c G s M r nc := by
  obtain ⟨P, K, h1, _⟩ := h
  exact ⟨P, K, h1⟩
theorem Gi.rd (h : Gi w wr bx c G s M r nc p l) : Rd wr p l := by
  obtain ⟨P, K, _, h2, _⟩ := h
  exact h2
theorem Gi.later (h : Gi w wr bx c G s M r nc p l) (hb : Below wr.heap.size wr w') : Gi w w' bx c G s M r nc p l := by
  obtain ⟨P, K, h1, h2, h3, h4⟩ := h
  exact ⟨P, K, h1.later hb, h2.later hb, h3, fun g hg => Nat.lt_of_lt_of_le (h4 g hg) hb.size⟩
theorem Gi.of (h : Gx w wr bx c G s M r nc) {cap : Nat} (hb : Below wr.heap.size wr w') (ho : w'.ownsRow wr.heap.size 3 1 (.slice p l.length cap) l.length (cellsZ l)) : Gi w w' bx c G s M r nc p l := by
  obtain ⟨P, K, h1⟩ := h
  refine ⟨P, K, h1.later hb, Rd.of_owns ho, fun g hg e => ?_, fun g hg => (owns_lt ho hg).2⟩
  have := (owns_lt ho hg).1
  have := h1.is.ltM e
  omega
end
theorem Gi.do {w wr : World} {bx : List (List Value)} {b wd lg st : Int} {G : Nat} {s : GSt} {M r nc : Nat} {p : Option Addr} {l : List Int} (h : Gi w wr bx ⟨b, wd, M, r, nc, lg, st⟩ G s M r nc p l) (hN : s.nO ≤ 1000000) (ht : FormTab w) (hl : LimTab w) (q : DQ) (V : World) (hV : Below wr.heap.size wr V) :
    Calls Tryd.prog 9 #[.pointer (some ⟨G, 0, none⟩), .int .i64 q.1, .agg #[.int .i64 q.2.1, .int .i64 q.2.2.1, .int .i64 q.2.2.2.1, .int .i64 q.2.2.2.2]] V fun e w' => e = .returned (.tuple #[.int .i64 (gV ⟨b, wd, M, r, nc, lg, st⟩ s q), .int .i64 (gE ⟨b, wd, M, r, nc, lg, st⟩ s q)]) ∧ Gi w w' bx ⟨b, wd, M, r, nc, lg, st⟩ G (gS ⟨b, wd, M, r, nc, lg, st⟩ s q) M r nc p l := by
  obtain ⟨P, K, h1, h2, h3, h4⟩ := h.later hV
  refine (do_any h1.is h1.wf hN (ht.later h1.bel) (hl.later h1.bel) q.1 q.2.1 q.2.2.1 q.2.2.2.1 q.2.2.2.2).mono ?_
  rintro e w' ⟨rfl, P', K', k1, k2, k3⟩
  have hs := h1.bel.size
  refine ⟨rfl, P', K', ⟨k1, (h1.wf.gdo b wd lg st _ _ _ _ _).1, h1.bel.trans (k2.below (fun k hk => by have := h1.mi k hk; omega) hs), fun x hx => ?_, fun i l hl j v hv => ?_, Nat.le_trans h1.bxs k2.size⟩, h2.chg k2 (fun g hg => h3 g hg), fun g hg e => ?_, fun g hg => Nat.lt_of_lt_of_le (h4 g hg) k2.size⟩
  · rcases k3 x hx with e | e
    · exact h1.mi x e
    · have := h1.bxs; omega
  · have hc := h1.box i l hl j v hv
    have hi : i < bx.length := (List.getElem?_eq_some_iff.1 hl).1
    exact (k2.cell (p := ⟨w.heap.size + i, j, none⟩) (lt_of_cell hc) (fun e => by have : w.heap.size + bx.length ≤ w.heap.size + i := h1.mi _ e; omega)).trans hc
  · rcases k3 g e with k | k
    · exact h3 g hg k
    · have := h4 g hg; omega
/-- What is reached is closed. -/
theorem rcS_fields {M r nc : Nat} {s : GSt} (wf : GWf M r nc s) {u v : Int} (hu : u ∈ rcS s) (hv : v ∈ fdI s u) (h0 : v ≠ 0) : v ∈ rcS s := by
  obtain ⟨a1, a2, a3⟩ := mem_rchL.1 hu
  have hb := a3.bound (rt_bound wf) (fd_bound wf)
  have e : fdI s u = s.E (ob u) := by unfold fdI ob; rw [if_pos hb]
  rw [e] at hv
  have hr : Rch (rtL s) (fun u => s.E (ob u)) v := .step a3 hv h0
  have hb2 := hr.bound (rt_bound wf) (fd_bound wf)
  exact mem_rchL.2 ⟨by omega, hb2.2, hr⟩
theorem mem_comp2 {zs : List Int} {x : Int} (h : x ∈ zs) : x ∈ Lib.compact zs := by
  have key : ∀ j : Nat, j < zs.length → zs.toArray[j]! = x → ∃ i, i < zs.length ∧ Lib.keeps zs.toArray i = true ∧ zs.toArray[i]! = x := by
    intro j
    induction j with
    | zero => exact fun h0 h1 => ⟨0, h0, Lib.keeps_lt_one _ 0 (by omega), h1⟩
    | succ j ih =>
      intro h0 h1
      by_cases e : zs.toArray[j + 1]! = zs.toArray[j]!
      · exact ih (by omega) (by rw [← e]; exact h1)
      · exact ⟨j + 1, h0, Lib.keeps_pos e, h1⟩
  obtain ⟨j, hj, rfl⟩ := List.mem_iff_getElem.1 h
  obtain ⟨i, h1, h2, h3⟩ := key j hj (by simp [getElem!_pos, hj])
  unfold Lib.compact Lib.compactUpTo
  exact List.mem_map.2 ⟨i, List.mem_filter.2 ⟨List.mem_range.2 h1, h2⟩, h3⟩
theorem mem_rt2 {s : GSt} {v : Int} (h : v ∈ rwL s) (h0 : v ≠ 0) : v ∈ rtL s := by
  unfold rtL nzL
  refine List.mem_filter.2 ⟨mem_comp2 ?_, by simpa using h0⟩
  unfold srt
  exact List.mem_mergeSort.2 h
theorem Rch.mono {R R' : List Int} {F : Int → List Int} (h : ∀ v ∈ R, v ∈ R') {v : Int} (hv : Rch R F v) : Rch R' F v := by
  induction hv with
  | root h1 => exact .root (h _ h1)
  | step _ h2 h3 ih => exact .step ih h2 h3
theorem set_less {s : GSt} {m k : Nat} {v : Int} (hv : v ∈ rcS (s.set (4 + 2 * m) k 0)) : v ∈ rcS s := by
  obtain ⟨a1, a2, a3⟩ := mem_rchL.1 hv
  have hF : (fun u : Int => (s.set (4 + 2 * m) k 0).E (ob u)) = fun u : Int => s.E (ob u) := by
    funext u
    exact GSt.set_other s (by unfold ob; omega)
  rw [hF] at a3
  refine mem_rchL.2 ⟨a1, a2, a3.mono fun x hx => ?_⟩
  obtain ⟨h1, h2⟩ := mem_rt hx
  refine mem_rt2 ?_ h2
  have hset : ∀ j, x ∈ (s.set (4 + 2 * m) k 0).E j → x ∈ s.E j := fun j hj => by
    by_cases e : j = 4 + 2 * m
    · subst e
      rw [GSt.set_same] at hj
      rcases List.mem_or_eq_of_mem_set hj with h | h
      · exact h
      · exact absurd h h2
    · rw [GSt.set_other s e] at hj; exact hj
  unfold rwL at h1 ⊢
  rcases List.mem_append.1 h1 with h | h
  · obtain ⟨i, hi, h⟩ := mem_catL.1 h
    exact List.mem_append.2 (.inl (mem_catL.2 ⟨i, hi, hset _ h⟩))
  · exact List.mem_append.2 (.inr (hset _ h))
theorem drop_less {c : C7} {s : GSt} (d0 d1 : Int) {v : Int} (hv : v ∈ rcS (gS c s (d0, 6, d1, 0, 0))) : v ∈ rcS s := by
  unfold gS gdo at hv
  simp only at hv
  split at hv
  · exact hv
  · split at hv
    · exact hv
    · unfold gd at hv
      simp only [show ¬ (6 : Int) = 1 by decide, show ¬ (6 : Int) = 2 by decide, show ¬ (6 : Int) = 3 by decide, show ¬ (6 : Int) = 4 by decide, show ¬ (6 : Int) = 5 by decide, if_false, if_true] at hv
      exact set_less hv
theorem drop_nO {c : C7} {s : GSt} (d0 d1 : Int) : (gS c s (d0, 6, d1, 0, 0)).nO = s.nO := by
  unfold gS gdo
  simp only
  split
  · rfl
  · split
    · rfl
    · unfold gd
      simp only [show ¬ (6 : Int) = 1 by decide, show ¬ (6 : Int) = 2 by decide, show ¬ (6 : Int) = 3 by decide, show ¬ (6 : Int) = 4 by decide, show ¬ (6 : Int) = 5 by decide, if_false, if_true]
      rfl
end Go.Proofs.YtcdnbheoelnghaaDoor.Gra

namespace Go.Proofs.YtcdnbheoelnghaaDoor.Gra
open Go.RowKit Go.Proofs.YtcdnbheoelnghaaDoor.Opr
open Go.Proofs.YtcdnbheoelnghaaDoor.Row (Chg rowB Rd Rd0 cellsZ cellsZ_length cellsZ_at info_parts infoInt owns_lt owns_slice owns_chg)

def Br (w wr : World) (bx : List (List Value)) (c : C7) (G : Nat) (s : GSt) (G2 : Nat) (s2 : GSt) (M r nc : Nat) (R : List (Option Addr × List Int)) : Prop :=
  ∃ P K P2 K2, Gb w wr bx c G P K s M r nc ∧ Gb w wr bx c G2 P2 K2 s2 M r nc ∧ (∀ x, mine G P x → ¬ mine G2 P2 x) ∧ ∀ q ∈ R, Rd wr q.1 q.2 ∧ ∀ g, rowB q.1 g → ¬ mine G P g ∧ ¬ mine G2 P2 g ∧ g < wr.heap.size
section
variable {w wr w' : World} {bx : List (List Value)} {c : C7} {G G2 : Nat} {s s2 : GSt} {M r nc : Nat} {R : List (Option Addr × List Int)}
theorem Br.bt (h : Br w wr bx c G s G2 s2 M r nc R) : Bt w wr bx c G s G2 s2 M r nc := by
  obtain ⟨P, K, P2, K2, h1, h2, h3, _⟩ := h
  exact ⟨P, K, P2, K2, h1, h2, h3⟩
theorem Br.of (h : Bt w wr bx c G s G2 s2 M r nc) : Br w wr bx c G s G2 s2 M r nc [] := by
  obtain ⟨P, K, P2, K2, h1, h2, h3⟩ := h
  exact ⟨P, K, P2, K2, h1, h2, h3, fun q hq => by cases hq⟩
theorem Br.rd (h : Br w wr bx c G s G2 s2 M r nc R) {q : Option Addr × List Int} (hq : q ∈ R) : Rd wr q.1 q.2 := by
  obtain ⟨P, K, P2, K2, _, _, _, h4⟩ := h
  exact (h4 q hq).1
theorem Br.tail {q : Option Addr × List Int} (h : Br w wr bx c G s G2 s2 M r nc (q :: R)) : Br w wr bx c G s G2 s2 M r nc R := by
  obtain ⟨P, K, P2, K2, h1, h2, h3, h4⟩ := h
  exact ⟨P, K, P2, K2, h1, h2, h3, fun q hq => h4 q (List.mem_cons_of_mem _ hq)⟩
theorem Br.later (h : Br w wr bx c G s G2 s2 M r nc R) (hb : Below wr.heap.size wr w') : Br w w' bx c G s G2 s2 M r nc R := by
  obtain ⟨P, K, P2, K2, h1, h2, h3, h4⟩ := h
  exact ⟨P, K, P2, K2, h1.later hb, h2.later hb, h3, fun q hq => ⟨(h4 q hq).1.later hb, fun g hg => ⟨((h4 q hq).2 g hg).1, ((h4 q hq).2 g hg).2.1, Nat.lt_of_lt_of_le ((h4 q hq).2 g hg).2.2 hb.size⟩⟩⟩
theorem Br.add (h : Br w wr bx c G s G2 s2 M r nc R) {p : Option Addr} {l : List Int} {cap : Nat} (hb : Below wr.heap.size wr w') (ho : w'.ownsRow wr.heap.size 3 1 (.slice p l.length cap) l.length (cellsZ l)) : Br w w' bx c G s G2 s2 M r nc ((p, l) :: R) := by
  obtain ⟨P, K, P2, K2, h1, h2, h3, h4⟩ := h
  refine ⟨P, K, P2, K2, h1.later hb, h2.later hb, h3, fun q hq => ?_⟩
  rcases List.mem_cons.1 hq with rfl | hq
  · refine ⟨Rd.of_owns ho, fun g hg => ?_⟩
    have hl := owns_lt ho hg
    exact ⟨fun e => by have := h1.is.ltM e; omega, fun e => by have := h2.is.ltM e; omega, hl.2⟩
  · exact ⟨(h4 q hq).1.later hb, fun g hg => ⟨((h4 q hq).2 g hg).1, ((h4 q hq).2 g hg).2.1, Nat.lt_of_lt_of_le ((h4 q hq).2 g hg).2.2 hb.size⟩⟩
end
theorem Br.do {w wr : World} {bx : List (List Value)} {b wd lg st : Int} {G G2 : Nat} {s s2 : GSt} {M r nc : Nat} {R : List (Option Addr × List Int)} (h : Br w wr bx ⟨b, wd, M, r, nc, lg, st⟩ G s G2 s2 M r nc R) (hN : s2.nO ≤ 1000000) (ht : FormTab w) (hl : LimTab w) (q : DQ) (V : World) (hV : Below wr.heap.size wr V) :
    Calls Tryd.prog 9 #[.pointer (some ⟨G2, 0, none⟩), .int .i64 q.1, .agg #[.int .i64 q.2.1, .int .i64 q.2.2.1, .int .i64 q.2.2.2.1, .int .i64 q.2.2.2.2]] V fun e w' => e = .returned (.tuple #[.int .i64 (gV ⟨b, wd, M, r, nc, lg, st⟩ s2 q), .int .i64 (gE ⟨b, wd, M, r, nc, lg, st⟩ s2 q)]) ∧ Br w w' bx ⟨b, wd, M, r, nc, lg, st⟩ G s G2 (gS ⟨b, wd, M, r, nc, lg, st⟩ s2 q) M r nc R := by
  obtain ⟨P2, K2, P, K, h2, h1, h3, h4⟩ := h.later hV
  refine (do_any h1.is h1.wf hN (ht.later h1.bel) (hl.later h1.bel) q.1 q.2.1 q.2.2.1 q.2.2.2.1 q.2.2.2.2).mono ?_
  rintro e w' ⟨rfl, P', K', k1, k2, k3⟩
  have hs := h1.bel.size
  refine ⟨rfl, P2, K2, P', K', h2.other k2 h1.mi (fun x hx e => h3 x hx e), ⟨k1, (h1.wf.gdo b wd lg st _ _ _ _ _).1, h1.bel.trans (k2.below (fun k hk => by have := h1.mi k hk; omega) hs), fun x hx => ?_, fun i l hl j v hv => ?_, Nat.le_trans h1.bxs k2.size⟩, fun x hx e => ?_, fun y hy => ⟨(h4 y hy).1.chg k2 (fun g hg => ((h4 y hy).2 g hg).2.1), fun g hg => ⟨((h4 y hy).2 g hg).1, fun e => ?_, Nat.lt_of_lt_of_le ((h4 y hy).2 g hg).2.2 k2.size⟩⟩⟩
  · rcases k3 x hx with e | e
    · exact h1.mi x e
    · have := h1.bxs; omega
  · have hc := h1.box i l hl j v hv
    have hi : i < bx.length := (List.getElem?_eq_some_iff.1 hl).1
    exact (k2.cell (p := ⟨w.heap.size + i, j, none⟩) (lt_of_cell hc) (fun e => by have : w.heap.size + bx.length ≤ w.heap.size + i := h1.mi _ e; omega)).trans hc
  · rcases k3 x e with k | k
    · exact h3 x hx k
    · have := h2.is.ltM hx; omega
  · rcases k3 g e with k | k
    · exact ((h4 y hy).2 g hg).2.1 k
    · have := ((h4 y hy).2 g hg).2.2; omega
theorem sAt_wf2 {b wd lg st : Int} {M r nc : Nat} {s : GSt} (h : GWf M r nc s) (l : List DQ) : ∀ j, GWf M r nc (sAt ⟨b, wd, M, r, nc, lg, st⟩ s l j) ∧ (sAt ⟨b, wd, M, r, nc, lg, st⟩ s l j).nO ≤ s.nO + j
  | 0 => ⟨h, Nat.le_refl _⟩
  | j + 1 => by
    obtain ⟨h1, h2⟩ := sAt_wf2 (b := b) (wd := wd) (lg := lg) (st := st) h l j
    have h3 := h1.gdo b wd lg st (dq l j).1 (dq l j).2.1 (dq l j).2.2.1 (dq l j).2.2.2.1 (dq l j).2.2.2.2
    exact ⟨h3.1, Nat.le_trans h3.2 (by omega)⟩
end Go.Proofs.YtcdnbheoelnghaaDoor.Gra
