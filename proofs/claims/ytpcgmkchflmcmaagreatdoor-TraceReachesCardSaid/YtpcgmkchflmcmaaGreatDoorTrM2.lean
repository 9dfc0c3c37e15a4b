/-
  The document's Reach: from one to the next, by definition.
-/
import Derived.Test.YtpcgmkchflmcmaaGreatDoorTrM1
namespace Go.Proofs.YtpcgmkchflmcmaaGreatDoor.Tr
open Go.RowKit Go.Shelf
open Class (below_drewN)
open Blk (Cfg allP kAt)
open Hp (Ids St Wf Is Mine bn bnI objL not_mine NewRow pkA_len BIs make_bools zeroInts zeroInts_at wpList_append_row)
open Rf (wpList_append_one step_append_row)
open Go.Proofs.YtpcgmkchflmcmaaGreatDoor.Row (Chg Rd Rd0 rowB rowB_none cell_of_block frozen_of_block other same cellsZ cellsZ_length cellsZ_snoc owns_block owns_chg owns_lt owns_base owns_less owns_some owns_cell)

section
variable {s : St} {R sn td : List Int} {n k i j : Nat} {a : Int}
/-- The i-th object's address. -/
def an (s : St) (i : Nat) : Nat := ((objL s).getD i 0).toNat
theorem an_eq (hw : Wf s) (hk : ∀ j, kAt s.ks j < 4) (h : i < (objL s).length) : (objL s).getD i 0 = (an s i : Int) ∧ 1 ≤ an s i ∧ an s i ≤ s.ws.length := by
  have hb := obj_at hw hk h
  have h0 := (bnI_pos hb).1
  have h1 := (hw.bn_bd (bnI_pos hb).2).1
  have h2 := bnI_lt hw hb
  unfold an
  omega
/-- The greatest of the first. -/
def topF (s : St) : Nat → Nat
  | 0 => 0
  | i + 1 => max (topF s i) (an s i)
theorem topF_le (hw : Wf s) (hk : ∀ j, kAt s.ks j < 4) : ∀ n, n ≤ (objL s).length → topF s n ≤ s.ws.length
  | 0, _ => Nat.zero_le _
  | n + 1, h => by
    have h1 := topF_le hw hk n (by omega)
    have h2 := (an_eq hw hk (show n < (objL s).length by omega)).2.2
    rw [topF]
    omega
theorem an_top : ∀ n, i < n → an s i ≤ topF s n
  | 0, h => by omega
  | n + 1, h => by
    rw [topF]
    by_cases e : i = n
    · subst e; omega
    · have := an_top n (show i < n by omega)
      omega
/-- Of an address its place among the first, and 1; 0. -/
def atF (s : St) : Nat → Nat → Nat
  | 0, _ => 0
  | i + 1, k => if k = an s i then i + 1 else atF s i k
theorem atF_le : ∀ n k, atF s n k ≤ n
  | 0, _ => Nat.le_refl _
  | n + 1, k => by
    rw [atF]
    split
    · omega
    · have := atF_le n k; omega
theorem atF_pos : ∀ n, atF s n k = j + 1 → j < n ∧ an s j = k
  | 0, h => by cases h
  | n + 1, h => by
    rw [atF] at h
    split at h
    · rename_i e; obtain rfl : n = j := by omega
      exact ⟨by omega, e.symm⟩
    · obtain ⟨h1, h2⟩ := atF_pos n h
      exact ⟨by omega, h2⟩
theorem atF_ne : ∀ n, i < n → an s i = k → atF s n k ≠ 0
  | 0, h, _ => by omega
  | n + 1, h, e => by
    rw [atF]
    split
    · omega
    · rename_i e2
      refine atF_ne n ?_ e
      by_cases e3 : i = n
      · subst e3; exact absurd e.symm e2
      · omega
/-- Seen, by its place. -/
def Got (s : St) (sn : List Int) (v : Int) : Prop := ∃ i : Nat, i < (objL s).length ∧ (objL s).getD i 0 = v ∧ (i : Int) ∈ sn
theorem Got.more {x : List Int} {v : Int} (h : Got s sn v) : Got s (sn ++ x) v := by
  obtain ⟨i, h1, h2, h3⟩ := h
  exact ⟨i, h1, h2, List.mem_append_left _ h3⟩
/-- A search, by places. -/
structure Vi (s : St) (R sn td : List Int) : Prop where
  sub : ∀ i : Nat, i < (objL s).length → (i : Int) ∈ sn → Rch s R ((objL s).getD i 0)
  tsub : ∀ v ∈ td, bnI s v = true → Rch s R v
  root : ∀ r ∈ R, bnI s r = true → Got s sn r ∨ r ∈ td
  cl : ∀ i : Nat, i < (objL s).length → (i : Int) ∈ sn → ∀ v ∈ tos s i, bnI s v = true → Got s sn v ∨ v ∈ td
theorem Vi.start (s : St) (R : List Int) : Vi s R [] R :=
  ⟨fun i _ h => (by cases h), fun v h hb => .root h hb, fun r h _ => .inr h, fun i _ h => (by cases h)⟩
theorem Vi.skip {t : List Int} (h : Vi s R sn (t ++ [a])) (ha : bnI s a = true → Got s sn a) : Vi s R sn t := by
  have hm : ∀ v, bnI s v = true → Got s sn v ∨ v ∈ t ++ [a] → Got s sn v ∨ v ∈ t := fun v hb e => by
    rcases e with e | e
    · exact .inl e
    · rcases List.mem_append.1 e with e | e
      · exact .inr e
      · have e2 := List.mem_singleton.1 e
        subst e2
        exact .inl (ha hb)
  exact ⟨h.sub, fun v hv => h.tsub v (List.mem_append_left _ hv), fun r hr hb => hm r hb (h.root r hr hb), fun i hi hs v hv hb => hm v hb (h.cl i hi hs v hv hb)⟩
theorem tos_fs {v : Int} (h : v ∈ tos s i) : v ∈ fs s ((objL s).getD i 0) := (List.mem_filter.1 h).1
theorem Vi.take {t : List Int} (h : Vi s R sn (t ++ [a])) (hw : Wf s) (hk : ∀ j, kAt s.ks j < 4) (hi : i < (objL s).length) (ha : (objL s).getD i 0 = a) : Vi s R (sn ++ [(i : Int)]) (t ++ tos s i) := by
  have hb := obj_at hw hk hi
  have hra : Rch s R ((objL s).getD i 0) := h.tsub _ (by rw [ha]; simp) hb
  have hm : ∀ v, Got s sn v ∨ v ∈ t ++ [a] → Got s (sn ++ [(i : Int)]) v ∨ v ∈ t ++ tos s i := fun v e => by
    rcases e with e | e
    · exact .inl e.more
    · rcases List.mem_append.1 e with e | e
      · exact .inr (List.mem_append_left _ e)
      · exact .inl ⟨i, hi, by rw [ha]; exact (List.mem_singleton.1 e).symm, by simp⟩
  refine ⟨fun j hj hs => ?_, fun v hv hbv => ?_, fun r hr hbr => hm r (h.root r hr hbr), fun j hj hs v hv hbv => ?_⟩
  · rcases List.mem_append.1 hs with e | e
    · exact h.sub j hj e
    · have e2 := List.mem_singleton.1 e
      obtain rfl : j = i := by omega
      exact hra
  · rcases List.mem_append.1 hv with e | e
    · exact h.tsub v (List.mem_append_left _ e) hbv
    · exact .step hra (tos_fs e) hbv
  · rcases List.mem_append.1 hs with e | e
    · exact hm v (h.cl j hj e v hv hbv)
    · have e2 := List.mem_singleton.1 e
      obtain rfl : j = i := by omega
      exact .inr (List.mem_append_right _ hv)
theorem Vi.fin (h : Vi s R sn []) (hw : Wf s) (hk : ∀ j, kAt s.ks j < 4) (hi : i < (objL s).length) : (i : Int) ∈ sn ↔ Rch s R ((objL s).getD i 0) := by
  have hg : ∀ v, Rch s R v → Got s sn v := fun v hv => by
    induction hv with
    | root h1 h2 => exact (h.root _ h1 h2).elim id (fun e => by cases e)
    | step h1 h2 h3 ih =>
      obtain ⟨j, hj, e, hs⟩ := ih
      refine (h.cl j hj hs _ ?_ h3).elim id (fun e => by cases e)
      unfold tos toL
      rw [e]
      refine List.mem_filter.2 ⟨h2, ?_⟩
      have := (hw.bn_bd (bnI_pos h3).2).1
      have := (bnI_pos h3).1
      simp; omega
  refine ⟨h.sub i hi, fun hr => ?_⟩
  obtain ⟨j, hj, e, hs⟩ := hg _ hr
  have e2 : j = i := by
    have h1 : (objL s)[j]? = (objL s)[i]? := by
      rw [List.getD_eq_getElem?_getD, List.getD_eq_getElem?_getD, List.getElem?_eq_getElem hj, List.getElem?_eq_getElem hi] at e
      rw [List.getElem?_eq_getElem hj, List.getElem?_eq_getElem hi]
      exact congrArg some e
    exact (List.getElem?_inj hj (objL_nodup hw hk)).1 h1
  exact e2 ▸ hs
/-- How many places aren't seen. -/
def usn (s : St) (sn : List Int) : Nat := (((List.range (objL s).length).map fun i : Nat => (i : Int)).filter fun i => !decide (i ∈ sn)).length
theorem usn_add (hi : i < (objL s).length) (hn : (i : Int) ∉ sn) : usn s (sn ++ [(i : Int)]) + 1 = usn s sn := by
  unfold usn
  rw [← filter_one ((List.range (objL s).length).map fun i : Nat => (i : Int)) (fun i => !decide (i ∈ sn)) (i : Int) ?_ (by simp; exact ⟨i, hi, rfl⟩) (by simpa using hn)]
  · congr 2
    apply List.filter_congr
    intro x _
    by_cases e : x = (i : Int) <;> simp [e]
  · rw [List.nodup_iff_pairwise_ne, List.pairwise_map]
    exact (List.nodup_range (n := (objL s).length)).imp (fun h => by omega)
theorem usn_le (s : St) (sn : List Int) : usn s sn ≤ (objL s).length := by
  unfold usn
  refine Nat.le_trans (List.length_filter_le _ _) ?_
  simp
open Classical in
/-- What is told, of the first. -/
noncomputable def resT (s : St) (R : List Int) (i : Nat) : List Int := (alT s i).filter fun a => decide (Rch s R a)
theorem resT_all (s : St) (R : List Int) : resT s R (objL s).length = rcL s R := by unfold resT rcL; rw [alT_all]
theorem resT_yes (hi : i < (objL s).length) (h : Rch s R ((objL s).getD i 0)) : resT s R i ++ [(objL s).getD i 0] = resT s R (i + 1) := by
  unfold resT
  rw [← alT_snoc hi, List.filter_append]
  generalize (objL s).getD i 0 = v at *
  simp [h]
theorem resT_no (hi : i < (objL s).length) (h : ¬ Rch s R ((objL s).getD i 0)) : resT s R i = resT s R (i + 1) := by
  unfold resT
  rw [← alT_snoc hi, List.filter_append]
  generalize (objL s).getD i 0 = v at *
  simp [h]
open Classical in
theorem resT_len (s : St) (R : List Int) (hi : i ≤ (objL s).length) : (resT s R i).length ≤ i := by
  unfold resT
  have h1 := alT_len hi
  have := List.length_filter_le (fun a => decide (Rch s R a)) (alT s i)
  omega
end

/-- A row of whole numbers, by a function. -/
def Ai (W : World) (g n : Nat) (f : Nat → Nat) : Prop := ∀ k, k < n → W.cell? ⟨g, k, none⟩ = some (.int .i64 (f k : Nat)) ∧ W.frozen? ⟨g, k, none⟩ = false
theorem Ai.chg {S : Nat → Prop} {W W' : World} {g n : Nat} {f : Nat → Nat} (h : Ai W g n f) (hc : Chg S W W') (hg : ¬ S g) : Ai W' g n f := fun k hk => by
  obtain ⟨h1, h2⟩ := h k hk
  have hl : g < W.heap.size := World.block_lt_of_cell? W _ h1
  exact ⟨(hc.cell (p := ⟨g, k, none⟩) hl hg).trans h1, (hc.frozen (p := ⟨g, k, none⟩) hl hg).trans h2⟩
theorem Ai.set {W : World} {g n i y : Nat} {s : St} (h : Ai W g n (atF s i)) (hy : y < n) (e : an s i = y) : Ai (W.setCell ⟨g, y, none⟩ (.int .i64 ((i : Int) + 1))) g n (atF s (i + 1)) := fun k hk => by
  obtain ⟨h1, h2⟩ := h k hk
  refine ⟨?_, (World.frozen?_setCell ..).trans h2⟩
  by_cases e2 : k = y
  · subst e2
    rw [same h1, atF, if_pos e.symm]
    rfl
  · rw [other (by intro h3; exact e2 (congrArg Addr.off h3).symm), h1, atF, if_neg (by rw [e]; exact e2)]
theorem Ai.start (W : World) (n : Nat) (s : St) : Ai (W.alloc (.cells (zeroInts n) 3)) W.heap.size n (atF s 0) := fun k hk =>
  ⟨by rw [World.cell?_alloc_new]; exact zeroInts_at n k hk, World.frozen?_alloc_at _ _ _ _ rfl⟩
theorem bis_below {W W' : World} {I N S : Nat} {l : List Int} (h : BIs W I N l) (hb : Below S W W') (hI : I < S) : BIs W' I N l :=
  ⟨Nat.lt_of_lt_of_le h.lt hb.size, fun x hx => (hb.cell (p := ⟨I, x, none⟩) hI).trans (h.at_ x hx), fun x hx => (hb.frozen (p := ⟨I, x, none⟩) hI).trans (h.fz x hx)⟩
theorem Ai.below {W W' : World} {g n S : Nat} {f : Nat → Nat} (h : Ai W g n f) (hb : Below S W W') (hg : g < S) : Ai W' g n f := fun k hk =>
  ⟨(hb.cell (p := ⟨g, k, none⟩) hg).trans (h k hk).1, (hb.frozen (p := ⟨g, k, none⟩) hg).trans (h k hk).2⟩
theorem obj_ix {s : St} {a : Int} (hw : Wf s) (hk : ∀ j, kAt s.ks j < 4) (hb : bnI s a = true) : 1 ≤ a ∧ a ≤ (topF s (objL s).length : Int) ∧ atF s (objL s).length a.toNat ≠ 0 := by
  obtain ⟨i, hi, e⟩ := List.getElem_of_mem ((objL_mem hw hk).2 hb)
  have e2 : (objL s).getD i 0 = a := by rw [List.getD_eq_getElem?_getD, List.getElem?_eq_getElem hi]; exact e
  obtain ⟨h1, h2, _⟩ := an_eq hw hk hi
  rw [e2] at h1
  have h3 := an_top (s := s) _ hi
  exact ⟨by omega, by omega, atF_ne _ hi (by omega)⟩
theorem at_got {s : St} {a : Int} {j : Nat} (hw : Wf s) (hk : ∀ j, kAt s.ks j < 4) (ha : 0 ≤ a) (h : atF s (objL s).length a.toNat = j + 1) : j < (objL s).length ∧ (objL s).getD j 0 = a := by
  obtain ⟨h1, h2⟩ := atF_pos _ h
  exact ⟨h1, by rw [(an_eq hw hk h1).1]; omega⟩
theorem make_more (n : Nat) (h : n ≤ 2000000) (W : World) :
    (Instr.makeSlice 28 (.int .i64 (n : Int)) (.int .i64 (n : Int))).run Tryz.prog W = .ok (.slice (some ⟨W.heap.size, 0, none⟩) n n) (W.alloc (.cells (zeroInts n) 3)) := by
  obtain ⟨i, hi, hz, hs, hb⟩ := Row.info_parts Row.infoInt
  have hr := run_make (P := Tryz.prog) W 28 3 i (.int .i64 0) Tryz.underlying28 hi hz .i64 .i64 n n (by omega) (by omega) (by rw [hb]; omega) (by omega)
  simp only [Int.toNat_natCast, hs, Nat.mul_one] at hr
  exact hr
/-- What the law's Of has told, read. -/
structure Gr (W : World) (s : St) (pA pT : Option Addr) (vs : List Value) : Prop where
  rA : Rd W pA (objL s)
  rT : ∀ j v, vs[j]? = some v → ∃ g off, pT = some ⟨g, off, none⟩ ∧ W.cell? ⟨g, off + j, none⟩ = some v
  vs : Vs W (fun _ => True) s (objL s).length vs
theorem Gr.later {W W' : World} {s : St} {pA pT : Option Addr} {vs : List Value} (h : Gr W s pA pT vs) (hb : Below W.heap.size W W') : Gr W' s pA pT vs :=
  ⟨h.rA.later hb, fun j v hv => by
    obtain ⟨g, off, e, hc⟩ := h.rT j v hv
    exact ⟨g, off, e, (hb.cell (p := ⟨g, off + j, none⟩) (World.block_lt_of_cell? W _ hc)).trans hc⟩, h.vs.turn (fun g _ hl => ⟨hb.block g hl, trivial⟩)⟩

set_option maxRecDepth 100000 in
set_option maxHeartbeats 8000000 in
theorem refReach_any {s : St} {pA pT pr : Option Addr} {cA cT cr : Nat} {vs : List Value} {R : List Int} (w : World) (h : Gr w s pA pT vs) (hr : Rd0 w pr R) (hrb : ∀ g, rowB pr g → 0 < R.length → g < w.heap.size) (hw : Wf s) (hk : ∀ j, kAt s.ks j < 4) (hN : (objL s).length ≤ 1000) (hR : R.length ≤ 1000) (hws : s.ws.length ≤ 1048576) :
    Calls Tryz.prog 14 #[.agg #[.slice pA (objL s).length cA, .slice pT (objL s).length cT], .slice pr R.length cr] w (NewRow w (rcL s R)) := by
  have HG := Lib.hid (fun (W : World) (hb : Below w.heap.size w W) => h.later hb)
  have HRD := Lib.hid (show ∀ (W : World), Below w.heap.size w W → Rd0 W pr R from fun W hb j hj => by
    obtain ⟨g, off, e, hc⟩ := hr j hj
    exact ⟨g, off, e, (hb.cell (p := ⟨g, off + j, none⟩) (hrb g (by rw [e]; rfl) (by omega))).trans hc⟩)
  have HAN := Lib.hid (fun i (hi : i < (objL s).length) => an_eq hw hk hi)
  have HTP := Lib.hid (fun n (hn : n ≤ (objL s).length) => topF_le hw hk n hn)
  have HW := Lib.hid hw
  have HK := Lib.hid hk
  have HBX := Lib.hid (show ∀ W, Below (w.heap.size + 1) (w.alloc (.cells #[.slice pA (objL s).length cA, .slice pT (objL s).length cT] 36)) W → Below w.heap.size w W ∧ W.cell? ⟨w.heap.size, 0, none⟩ = some (.slice pA (objL s).length cA) ∧ W.cell? ⟨w.heap.size, 1, none⟩ = some (.slice pT (objL s).length cT) from fun W hb =>
    ⟨((Below.refl _ _).alloc (Nat.le_refl _) _).trans (hb.mono (by omega)), (hb.cell (p := ⟨w.heap.size, 0, none⟩) (by show w.heap.size < _; omega)).trans (by rw [World.cell?_alloc_new]; rfl), (hb.cell (p := ⟨w.heap.size, 1, none⟩) (by show w.heap.size < _; omega)).trans (by rw [World.cell?_alloc_new]; rfl)⟩)
  clear h hr hrb hw hk
  generalize hN' : (objL s).length = N at *
  go_enter Tryz.func14, Tryz.ntmps14
  go_wp2
  obtain ⟨wb, hwb⟩ : ∃ wb, w.alloc (.cells #[.slice pA N cA, .slice pT N cT] 36) = wb := ⟨_, rfl⟩
  have hbz : wb.heap.size = w.heap.size + 1 := by rw [← hwb]; simp
  rw [hwb] at HBX ⊢
  clear hwb
  go_loopw [5, 6] (fun y x wr => ∃ i : Nat, i ≤ N ∧ x = .int .i64 (i : Int) ∧ y = .int .i64 (topF s i : Nat) ∧ wb = wr) (fun _ x _ => N - (intOf x).toNat)
  case atStart => exact ⟨0, Nat.zero_le _, rfl, rfl, rfl⟩
  case round =>
    obtain ⟨i, hi, rfl, rfl, rfl⟩ := hrel
    obtain ⟨hb0, c0, c1⟩ := HBX.out wb (by rw [hbz] at *; exact Below.refl _ _)
    by_cases hlt : i < N
    · have i0 : (0 : Int) ≤ (i : Int) := Int.natCast_nonneg _
      have i1 : (i : Int) < (N : Int) := by omega
      obtain ⟨g, off, hp, hc⟩ := (HG.out wb hb0).rA.at (show i < (objL s).length by omega)
      obtain ⟨e1, e2, e3⟩ := HAN.out i hlt
      rw [e1] at hc
      have ht := HTP.out i (by omega)
      subst hp
      clear hb0
      go_wp2
      go_roundw
      case rel => exact ⟨i + 1, by omega, by go_num, by rw [topF]; congr 1; omega, trivial⟩
      case measure => simp [intOf]; omega
    · have i1 : ¬ (i : Int) < (N : Int) := by omega
      obtain rfl : N = i := by omega
      have ht := HTP.out N (Nat.le_refl _)
      have HTO := Lib.hid (fun j (hj : j < N) => an_top (s := s) N hj)
      have HIX := Lib.hid (fun a (ha : bnI s a = true) => obj_ix HW.out HK.out ha)
      rw [hN'] at HIX
      generalize topF s N = T at *
      have hmk : ∀ W : World, (Instr.makeSlice 28 (.int .i64 ((T : Int) + 1)) (.int .i64 ((T : Int) + 1))).run Tryz.prog W = .ok (.slice (some ⟨W.heap.size, 0, none⟩) (T + 1) (T + 1)) (W.alloc (.cells (zeroInts (T + 1)) 3)) := fun W => make_more (T + 1) (by omega) W
      have t0 : (0 : Int) ≤ (T : Int) := Int.natCast_nonneg _
      have t1 : (T : Int) ≤ 1048576 := by omega
      clear hb0
      go_wp2
      clear hmk
      have hai := Ai.start wb (T + 1) s
      have hbX : Below wb.heap.size wb (wb.alloc (.cells (zeroInts (T + 1)) 3)) := (Below.refl _ _).alloc (Nat.le_refl _) _
      have hsX : (wb.alloc (.cells (zeroInts (T + 1)) 3)).heap.size = wb.heap.size + 1 := by simp
      generalize wb.alloc (.cells (zeroInts (T + 1)) 3) = X at *
      have HBW := Lib.hid (show ∀ W, Chg (fun k => k = wb.heap.size) X W → Below (w.heap.size + 1) wb W from fun W hc => (hbX.mono (by omega)).trans (hc.below (fun k e => by omega) (by omega)))
      rw [hbz] at hai HBW
      have HAI := Lib.hid hai
      clear hai hbX c0 c1
      generalize hgA : w.heap.size + 1 = gA at *
      go_loopw [8] (fun x wr => ∃ j : Nat, j ≤ N ∧ x = .int .i64 (j : Int) ∧ Ai wr gA (T + 1) (atF s j) ∧ Chg (fun k => k = gA) X wr ∧ wr.heap.size = X.heap.size) (fun x _ => N - (intOf x).toNat)
      case atStart => exact ⟨0, Nat.zero_le _, rfl, HAI.out, Chg.refl _ _, rfl⟩
      case round =>
        obtain ⟨j, hj, rfl, haj, hcj, hsj⟩ := hrel
        obtain ⟨hb0, c0, c1⟩ := HBX.out wr (HBW.out wr hcj)
        have HAJ := Lib.hid haj
        have HCJ := Lib.hid hcj
        clear haj hcj HAI
        by_cases hlt : j < N
        · have i0 : (0 : Int) ≤ (j : Int) := Int.natCast_nonneg _
          have i1 : (j : Int) < (N : Int) := by omega
          obtain ⟨g, off, hp, hc⟩ := (HG.out wr hb0).rA.at (show j < (objL s).length by omega)
          obtain ⟨e1, e2, e3⟩ := HAN.out j hlt
          rw [e1] at hc
          have hto := HTO.out j hlt
          subst hp
          clear hb0
          obtain ⟨yn, hyn⟩ : ∃ y, an s j = y := ⟨_, rfl⟩
          rw [hyn] at hc hto
          have y0 : (0 : Int) ≤ (yn : Int) := Int.natCast_nonneg _
          have y1 : (yn : Int) < (T : Int) + 1 := by omega
          obtain ⟨z0, z1⟩ := HAJ.out yn (by omega)
          go_wp2
          go_roundw
          case rel => exact ⟨j + 1, by omega, by go_num, HAJ.out.set (by omega) hyn, HCJ.out.set (.inl rfl) _, by simpa [World.setCell] using hsj⟩
          case measure => simp [intOf]; omega
        · have i1 : ¬ (j : Int) < (N : Int) := by omega
          obtain rfl : N = j := by omega
          have hmb : ∀ W : World, (Instr.makeSlice 72 (.int .i64 (N : Int)) (.int .i64 (N : Int))).run Tryz.prog W = .ok (.slice (some ⟨W.heap.size, 0, none⟩) N N) (W.alloc (.cells (madeCells #[.bool false] N) 4)) := fun W => make_bools N (by omega) W
          have n0 : (0 : Int) ≤ (N : Int) := Int.natCast_nonneg _
          have hws1 : wr.heap.size = gA + 1 := by omega
          have hY : ∀ o, (wr.alloc o).heap.size = gA + 2 := fun o => by rw [World.size_alloc]; omega
          have HBB := Lib.hid (HBW.out wr HCJ.out)
          have hbY : Below (gA + 1) wr ((wr.alloc (.cells (madeCells #[.bool false] N) 4)).alloc (.cells #[] 3)) := by rw [← hws1]; exact ((Below.refl _ _).alloc (Nat.le_refl _) _).alloc (by rw [hY]; omega) _
          have HRW := Lib.hid (HRD.out _ (hb0.trans (hbY.mono (by omega))))
          have HOM := Lib.hid (show ((wr.alloc (.cells (madeCells #[.bool false] N) 4)).alloc (.cells #[] 3)).ownsRow (gA + 2) 3 1 (.slice (some ⟨gA + 2, 0, none⟩) 0 0) 0 [] from by
            have := World.ownsRow_made (base := gA + 2) (size := 1) (e := 3) (wr.alloc (.cells (madeCells #[.bool false] N) 4)) #[] 0 (by rw [hY]; omega) (Nat.zero_le _) rfl
            rw [hY] at this
            exact this)
          have HBI := Lib.hid (show BIs ((wr.alloc (.cells (madeCells #[.bool false] N) 4)).alloc (.cells #[] 3)) (gA + 1) N [] from by
            have := BIs.start wr N
            rw [hws1] at this
            exact bis_below this ((Below.refl _ _).alloc (Nat.le_refl _) _) (by rw [hY]; omega))
          have HYY := Lib.hid hbY
          have hYs : ((wr.alloc (.cells (madeCells #[.bool false] N) 4)).alloc (.cells #[] 3)).heap.size = gA + 3 := by rw [World.size_alloc, hY]
          clear hb0 hbY
          go_wp2_with (at_builtin; refine wpList_append_row rfl (.tmp 51) (.tmp 52) rfl (gA + 2) (some ⟨gA + 2, 0, none⟩) 0 [] rfl HOM.out pr cr R rfl HRW.out (by simp; omega) (by omega) ?_; intro p5 c5 w5 ho5 hb5; rw [List.nil_append] at ho5 ⊢; have HO5 := Lib.hid ho5; have HB5 := Lib.hid hb5; clear ho5 hb5)
          clear hmb hY c0 c1
          have HKP := Lib.hid (show ∀ W, Below (gA + 1) w5 W → Ai W gA (T + 1) (atF s N) ∧ Below w.heap.size w W ∧ W.cell? ⟨w.heap.size, 0, none⟩ = some (.slice pA N cA) ∧ W.cell? ⟨w.heap.size, 1, none⟩ = some (.slice pT N cT) from fun W hb => by
            have h1 : Below (gA + 1) wr W := HYY.out.trans ((HB5.out.mono (by omega)).trans hb)
            exact ⟨HAJ.out.below h1 (by omega), HBX.out W (HBB.out.trans (h1.mono (by omega)))⟩)
          have HBI5 := Lib.hid (bis_below HBI.out HB5.out (by omega))
          have hz5 : gA + 3 ≤ w5.heap.size := by have := HB5.out.size; omega
          clear HBI HRW HOM HYY HBB HAJ HCJ
          go_loopg [10] (16 * usn s [] + R.length) (fun gh x wr => ∃ (sn td : List Int) (pq : Option Addr) (cq : Nat), x = .slice pq td.length cq ∧ Vi s R sn td ∧ wr.ownsRow (gA + 2) 3 1 (.slice pq td.length cq) td.length (cellsZ td) ∧ BIs wr (gA + 1) N sn ∧ Below (gA + 1) w5 wr ∧ gh = 16 * usn s sn + td.length ∧ gh ≤ 16 * N + R.length)
          case atStart => exact ⟨[], R, p5, c5, rfl, Vi.start s R, HO5.out, HBI5.out, Below.refl _ _, rfl, by have := usn_le s []; omega⟩
          case round =>
            clear HO5 HBI5
            obtain ⟨sn, td, pq, cq, rfl, hvi, hot, hbi, hb6, hgh, hgb⟩ := hrel
            obtain ⟨hai, hb0, c0, c1⟩ := HKP.out wr hb6
            have HVI := Lib.hid hvi
            have HOT := Lib.hid hot
            have HBI := Lib.hid hbi
            have HB6 := Lib.hid hb6
            have HAI2 := Lib.hid hai
            have HB0 := Lib.hid hb0
            have HGH := Lib.hid (And.intro hgh hgb)
            clear hvi hot hbi hb6 hai hb0 hgh hgb
            rcases List.eq_nil_or_concat td with e0 | ⟨t, a, e0⟩
            · subst e0
              go_wp2_with fail
              obtain ⟨wq, hwq⟩ : ∃ wq, wq = wr := ⟨_, rfl⟩
              subst hwq
              have HBW4 := Lib.hid (show ∀ W, Below wq.heap.size wq W → Gr W s pA pT vs ∧ W.cell? ⟨w.heap.size, 0, none⟩ = some (.slice pA N cA) ∧ Below w.heap.size w W from fun W hb => by
                have h1 := HB6.out.trans (hb.mono (by have := HB6.out.size; omega))
                obtain ⟨_, q2, q3, _⟩ := HKP.out W h1
                exact ⟨HG.out W q2, q3, q2⟩)
              have HBS := Lib.hid (show ∀ W, Below wq.heap.size wq W → ∀ i, i < N → W.cell? ⟨gA + 1, i, none⟩ = some (.bool (decide ((i : Int) ∈ sn))) from fun W hb i hi => (bis_below HBI.out hb HBI.out.lt).at_ i hi)
              have HFN := Lib.hid (fun i (hi : i < N) => HVI.out.fin HW.out HK.out (i := i) (by rw [hN']; exact hi))
              have HRL := Lib.hid (fun i (hi : i ≤ N) => resT_len s R (i := i) (by rw [hN']; exact hi))
              have hwz : w.heap.size ≤ wq.heap.size := HB0.out.size
              clear c0 c1 HKP HVI HOT HBI HB6 HAI2 HGH
              go_loopw [12, 13] (fun ov x w9 => ∃ (i : Nat) (pl : Option Addr) (cl : Nat), i ≤ N ∧ x = .int .i64 (i : Int) ∧ ov = .slice pl (resT s R i).length cl ∧ w9.ownsRow wq.heap.size 3 1 (.slice pl (resT s R i).length cl) (resT s R i).length (cellsZ (resT s R i)) ∧ Below wq.heap.size wq w9) (fun _ x _ => N - (intOf x).toNat)
              case atStart => exact ⟨0, none, 0, Nat.zero_le _, rfl, by simp [resT, alT], ⟨by simp [cellsZ, resT, alT], .inl ⟨by simp [resT, alT], by simp [resT, alT]⟩⟩, Below.refl _ _⟩
              case round =>
                obtain ⟨i, pl, cl, hi, rfl, rfl, ho, hb⟩ := hrel
                have HO := Lib.hid ho
                have HB := Lib.hid hb
                clear ho hb
                obtain ⟨hgr, c0, hb9⟩ := HBW4.out _ HB.out
                by_cases hlt : i < N
                · have i0 : (0 : Int) ≤ (i : Int) := Int.natCast_nonneg _
                  have i1 : (i : Int) < (N : Int) := by omega
                  obtain ⟨g, off, hp, hc⟩ := hgr.rA.at (show i < (objL s).length by omega)
                  have hin := HBS.out _ HB.out i hlt
                  subst hp
                  clear hgr hb9
                  by_cases hrc : Rch s R ((objL s).getD i 0)
                  · rw [decide_eq_true ((HFN.out i hlt).2 hrc)] at hin
                    have HSN := Lib.hid (resT_yes (by omega) hrc)
                    clear hrc
                    generalize (objL s).getD i 0 = y at *
                    have hl1 : (resT s R i).length + 1 = (resT s R (i + 1)).length := by rw [← HSN.out]; simp
                    have HAP := Lib.hid (show ∀ p' c' w7, w7.ownsRow wq.heap.size 3 1 (.slice p' (resT s R i ++ [y]).length c') (resT s R i ++ [y]).length (cellsZ (resT s R i ++ [y])) → Chg (rowB pl) wr w7 → Hid (w7.ownsRow wq.heap.size 3 1 (.slice p' (resT s R (i + 1)).length c') (resT s R (i + 1)).length (cellsZ (resT s R (i + 1))) ∧ Below wq.heap.size wq w7) ∧ (resT s R i).length + 1 = (resT s R (i + 1)).length from fun p' c' w7 ho7 hC => ⟨Lib.hid ⟨by rw [HSN.out] at ho7; exact ho7, HB.out.trans (hC.below (fun k hk => (owns_lt HO.out hk).1) HB.out.size)⟩, hl1⟩)
                    go_wp2_with (at_builtin; refine wpList_append_one rfl _ _ rfl wr wq.heap.size pl cl (resT s R i) y rfl rfl HO.out rfl (by have := HRL.out i (by omega); omega) HB.out.size ?_; intro p4 c4 w7 ho4 hC4 hR4; obtain ⟨HH4, hl4⟩ := HAP.out p4 c4 w7 ho4 hC4; rw [hl4]; clear ho4 hC4 hR4 hl4)
                    go_roundw
                    case rel => exact ⟨_, _, _, _, _, _, _, _, _, _, _, _, _, _, _, _, _, _, _, _, _, ⟨i + 1, p4, c4, by omega, by go_num, rfl, HH4.out⟩, rfl⟩
                    case measure => simp [intOf]; omega
                  · rw [decide_eq_false (fun e => hrc ((HFN.out i hlt).1 e))] at hin
                    have HSN := Lib.hid (resT_no (by omega) hrc)
                    clear hrc
                    rw [HSN.out] at HO ⊢
                    go_wp2
                    go_roundw
                    case rel => exact ⟨i + 1, pl, cl, by omega, by go_num, rfl, HO.out, HB.out⟩
                    case measure => simp [intOf]; omega
                · have i1 : ¬ (i : Int) < (N : Int) := by omega
                  obtain rfl : N = i := by omega
                  have hall : resT s R N = rcL s R := by rw [← hN']; exact resT_all s R
                  rw [hall] at HO ⊢
                  have HF := Lib.hid (And.intro (owns_base hwz HO.out) hb9)
                  clear hgr hb9
                  go_wp2
                  go_ret
                  exact ⟨pl, cl, rfl, HF.out⟩
            · rw [List.concat_eq_append] at e0
              subst e0
              obtain ⟨gq, hpq, hcl⟩ := Row.owns_some HOT.out (j := t.length) (by simp)
              subst hpq
              have hga : (t ++ [a]).getD t.length 0 = a := by simp [List.getD_eq_getElem?_getD]
              rw [hga] at hcl
              clear hga
              have hgb := HGH.out
              rw [List.length_append, List.length_singleton] at hgb ⊢
              have l0 : (0 : Int) ≤ (t.length : Int) := Int.natCast_nonneg _
              have l1 : (t.length : Int) ≤ 20000 := by have := hgb.2; omega
              have HOL := Lib.hid (show wr.ownsRow (gA + 2) 3 1 (.slice (some ⟨gq, 0, none⟩) t.length cq) t.length (cellsZ t) from by
                have h1 := Row.owns_less (m := t.length) HOT.out (by simp)
                have h2 : (cellsZ (t ++ [a])).take t.length = cellsZ t := by simp [cellsZ]
                rw [h2] at h1
                exact h1)
              have hq2 : gA + 2 ≤ gq := (owns_lt HOT.out rfl).1
              have hcap := (Row.owns_cap HOT.out).1
              rw [List.length_append, List.length_singleton] at hcap
              have q1 : (t.length : Int) ≤ (cq : Int) := by omega
              have q2 : t.length ≤ cq := by omega
              have q3 : ¬ cq = 0 := by omega
              by_cases h1 : a < 1
              · have hv := HVI.out.skip (fun hb => by have := (HIX.out a hb).1; omega)
                have HV := Lib.hid hv
                clear hv
                go_wp2
                go_roundg (16 * usn s sn + t.length)
                case measure => omega
                case rel => exact ⟨sn, t, _, cq, rfl, HV.out, HOL.out, HBI.out, HB6.out, rfl, by omega⟩
              · by_cases h2 : (T : Int) < a
                · have hv := HVI.out.skip (fun hb => by have := (HIX.out a hb).2.1; omega)
                  have HV := Lib.hid hv
                  clear hv
                  go_wp2
                  go_roundg (16 * usn s sn + t.length)
                  case measure => omega
                  case rel => exact ⟨sn, t, _, cq, rfl, HV.out, HOL.out, HBI.out, HB6.out, rfl, by omega⟩
                · obtain ⟨na, rfl⟩ := Int.eq_ofNat_of_zero_le (show 0 ≤ a by omega)
                  obtain ⟨z0, _⟩ := HAI2.out na (by omega)
                  have a2 : (na : Int) < (T : Int) + 1 := by omega
                  have a3 : (0 : Int) ≤ (na : Int) := by omega
                  cases hat : atF s N na with
                  | zero =>
                    have hv := HVI.out.skip (fun hb => absurd hat (by have := (HIX.out _ hb).2.2; rw [Int.toNat_natCast] at this; exact this))
                    have HV := Lib.hid hv
                    rw [hat] at z0
                    clear hv hat
                    go_wp2
                    go_roundg (16 * usn s sn + t.length)
                    case measure => omega
                    case rel => exact ⟨sn, t, _, cq, rfl, HV.out, HOL.out, HBI.out, HB6.out, rfl, by omega⟩
                  | succ j =>
                    obtain ⟨hj, hja⟩ := at_got (a := (na : Int)) HW.out HK.out a3 (by rw [hN', Int.toNat_natCast]; exact hat)
                    rw [hN'] at hj
                    have HJA := Lib.hid hja
                    rw [hat, show ((j + 1 : Nat) : Int) = (j : Int) + 1 from rfl] at z0
                    have zj := HBI.out.at_ j hj
                    have zf := HBI.out.fz j hj
                    have j0 : (0 : Int) ≤ (j : Int) := Int.natCast_nonneg _
                    have j1 : (j : Int) < (N : Int) := by omega
                    have HAT := Lib.hid hat
                    clear hat hja
                    by_cases hs : (j : Int) ∈ sn
                    · have hv := HVI.out.skip (fun _ => ⟨j, by omega, HJA.out, hs⟩)
                      have HV := Lib.hid hv
                      rw [decide_eq_true hs] at zj
                      clear hv hs
                      go_wp2
                      go_roundg (16 * usn s sn + t.length)
                      case measure => omega
                      case rel => exact ⟨sn, t, _, cq, rfl, HV.out, HOL.out, HBI.out, HB6.out, rfl, by omega⟩
                    · have HV := Lib.hid (HVI.out.take HW.out HK.out (show j < (objL s).length by omega) HJA.out)
                      have hus := usn_add (s := s) (by omega) hs
                      rw [decide_eq_false hs] at zj
                      clear hs
                      have htl := toL_len (s := s) ((objL s).getD j 0)
                      have htl : (tos s j).length ≤ 15 := htl
                      go_wp2_with fail
                      obtain ⟨w6, hw6⟩ : ∃ w6, wr.setCell ⟨gA + 1, j, none⟩ (.bool true) = w6 := ⟨_, rfl⟩
                      have hb7 : Below (gA + 1) wr w6 := by rw [← hw6]; exact (Below.refl (gA + 1) wr).setCell (p := ⟨gA + 1, j, none⟩) (Nat.le_refl (gA + 1)) (.bool true)
                      have HBI6 := Lib.hid (show BIs w6 (gA + 1) N (sn ++ [(j : Int)]) from by rw [← hw6]; exact HBI.out.set hj)
                      have HOW := Lib.hid (show w6.drew.ownsRow (gA + 2) 3 1 (.slice (some ⟨gq, 0, none⟩) t.length cq) t.length (cellsZ t) from owns_block HOL.out (fun g hg => by
                        have e : gq = g := by simpa [rowB] using hg
                        show w6.heap[g]? = _
                        rw [← hw6]
                        exact Below.heap_setCell wr _ _ g (fun e2 => by simp only at e2; omega)))
                      have HB7 := Lib.hid (HB6.out.trans hb7)
                      obtain ⟨hai, hb0, d0, d1⟩ := HKP.out w6 HB7.out
                      have hgr := HG.out w6 hb0
                      obtain ⟨pj, cj, hvj, hrj, _⟩ := hgr.vs.2 j (by omega)
                      obtain ⟨gT, oT, hpT, hcT⟩ := hgr.rT j _ hvj
                      have HRJ := Lib.hid (show Rd0 w6.drew pj (tos s j) from (hrj.later (below_drewN (Below.refl _ _) 1)).rd0)
                      obtain ⟨z6, _⟩ := hai na (by omega)
                      rw [show atF s N na = j + 1 from HAT.out, show ((j + 1 : Nat) : Int) = (j : Int) + 1 from rfl] at z6
                      subst hpT
                      have hz6 : gA + 2 ≤ w6.heap.size := by have := HB7.out.size; omega
                      have hwj : IntKind.i64.wrap (j : Int) = (j : Int) := IntWalk.i64_in _ (by omega)
                      have hwj2 : IntKind.i64.wrap ((j : Int) + 1 - 1) = (j : Int) := by rw [show (j : Int) + 1 - 1 = (j : Int) by omega]; exact hwj
                      rw [hw6]
                      clear hw6 hb7 hai hb0 hgr hvj hrj c0 c1 z0 zj zf hcl
                      go_region_law (refine step_append_row rfl (.tmp 99) (.tmp 108) rfl (gA + 2) (some ⟨gq, 0, none⟩) cq t.length t rfl rfl HOW.out pj cj (tos s j).length (tos s j) rfl rfl HRJ.out (by omega) hz6 ?_; intro p' c' w7 hown hbel; have HO7 := Lib.hid hown; have HB8 := Lib.hid (show Below (gA + 2) w6 w7 from (below_drewN (Below.refl _ w6) 1).trans hbel); clear hown hbel)
                      all_goals
                        go_wp2
                        go_roundg (16 * usn s (sn ++ [(j : Int)]) + (t ++ tos s j).length)
                        case measure => rw [List.length_append]; omega
                        case rel => exact ⟨sn ++ [(j : Int)], t ++ tos s j, p', c', by rw [List.length_append], HV.out, HO7.out, bis_below HBI6.out HB8.out (by omega), HB7.out.trans (HB8.out.mono (by omega)), rfl, by rw [List.length_append]; omega⟩
end Go.Proofs.YtpcgmkchflmcmaaGreatDoor.Tr
