/-
  What an object's fields have; the iterator Edges; look.
-/
import Derived.Test.YtpcgmkchflmcmaaGreatDoorTrA
import Derived.Test.YtpcgmkchflmcmaaGreatDoorTrB
import Derived.Test.YtpcgmkchflmcmaaGreatDoorSwm
namespace Go.Proofs.YtpcgmkchflmcmaaGreatDoor.Tr
open Go.RowKit Go.Shelf
open Class (below_drewN)
open Blk (Cfg allP)
open Hp (isO_any fields_any load_any Ids St Wf Is To Mine bn bnI bnI_nat fN fE lE lV objL not_mine make_ints zeroInts zeroInts_at two_new)
open Go.Proofs.YtpcgmkchflmcmaaGreatDoor.Row (Chg Rd Rd0 rowB cell_of_block frozen_of_block other same cellsZ cellsZ_length cellsZ_at)
open Go.Proofs.YtpcgmkchflmcmaaGreatDoor.Addr (Tabs)
attribute [local go_sem] Oper.semAt_some

section
variable {w w1 w2 w' : World} {H : Nat} {d d1 d2 d' : Ids} {s s1 s2 s' : St} {m m1 m2 m' : Nat}
/-- A heap that was d's is d1's now: only its own blocks turned. -/
structure Tn (w : World) (H : Nat) (d : Ids) (w1 : World) (d1 : Ids) (s1 : St) (m1 : Nat) : Prop where
  is : Is w1 H d1 s1 m1
  chg : Chg (Mine H d) w w1
  grow : ∀ j, Mine H d1 j → Mine H d j ∨ w.heap.size ≤ j
theorem Tn.refl (h : Is w H d s m) : Tn w H d w d s m := ⟨h, Chg.refl _ _, fun _ e => .inl e⟩
theorem Tn.to (h : Tn w H d w1 d1 s1 m1) (k : To w1 w2 H d1 s2 m2) : ∃ d2, Tn w H d w2 d2 s2 m2 := by
  obtain ⟨d2, h3, h4, h5⟩ := k
  have hs := h.chg.size
  exact ⟨d2, h3, h.chg.trans h4 h.grow, fun j hj => (h5 j hj).elim (h.grow j) (fun e => .inr (by omega))⟩
theorem Tn.trans (h : Tn w H d w1 d1 s1 m1) (k : Tn w1 H d1 w2 d2 s2 m2) : Tn w H d w2 d2 s2 m2 := by
  have hs := h.chg.size
  exact ⟨k.is, h.chg.trans k.chg h.grow, fun j hj => (k.grow j hj).elim (h.grow j) (fun e => .inr (by omega))⟩
theorem Tn.later (h : Tn w H d w1 d1 s1 m1) (hb : Below w1.heap.size w1 w2) : Tn w H d w2 d1 s1 m1 :=
  ⟨h.is.later hb, h.chg.trans (Chg.of_below (S := fun _ => False) hb) (fun _ e => e.elim), h.grow⟩
theorem Tn.more (h : Tn w H d w1 d1 s1 m1) (hm : m1 ≤ m2) : Tn w H d w1 d1 s1 m2 := ⟨h.is.more hm, h.chg, h.grow⟩
theorem Tn.tabs (h : Tn w H d w1 d1 s1 m1) (h0 : Is w H d s m) (ht : Tabs w) : Tabs w1 := h0.tabs h.chg ht
end

/-- What an object's fields have; nothing, of what is none. -/
def fs (s : St) (a : Int) : List Int := if bnI s a = true then (List.range (fN s a)).map fun k => lV s a (k : Nat) else []
theorem fs_no {s : St} {a : Int} (h : bnI s a = false) : fs s a = [] := if_neg (by simp [h])
theorem fs_len {s : St} {a : Int} (h : bnI s a = true) : (fs s a).length = fN s a := by rw [fs, if_pos h]; simp
theorem fs_at {s : St} {a : Int} (h : bnI s a = true) {k : Nat} (hk : k < fN s a) : (fs s a).getD k 0 = lV s a (k : Nat) := by
  rw [fs, if_pos h, List.getD_eq_getElem?_getD]
  simp [hk]
theorem obj_fN {s : St} {a : Int} (hw : Wf s) (h : bnI s a = true) : fN s a ≤ 15 ∧ fE s a = 0 := by
  have h0 : 0 ≤ a := by unfold bnI at h; rw [Bool.and_eq_true, decide_eq_true_iff] at h; exact h.1
  obtain ⟨n, rfl⟩ := Int.eq_ofNat_of_zero_le h0
  rw [bnI_nat] at h
  obtain ⟨h1, h2, _⟩ := Hp.obj_fields hw h
  exact ⟨by rw [h1]; exact Hdr.obF_le _, h2⟩

/-- A row of numbers that is laid anew, the first ones already. -/
def Fr (W : World) (g n j : Nat) (f : Nat → Int) : Prop := ∀ k, k < n → W.cell? ⟨g, k, none⟩ = some (.int .i64 (if k < j then f k else 0)) ∧ W.frozen? ⟨g, k, none⟩ = false
theorem Fr.chg {S : Nat → Prop} {W W' : World} {g n j : Nat} {f : Nat → Int} (h : Fr W g n j f) (hc : Chg S W W') (hg : ¬ S g) : Fr W' g n j f := fun k hk => by
  obtain ⟨h1, h2⟩ := h k hk
  have hl : g < W.heap.size := World.block_lt_of_cell? W _ h1
  exact ⟨(hc.cell (p := ⟨g, k, none⟩) hl hg).trans h1, (hc.frozen (p := ⟨g, k, none⟩) hl hg).trans h2⟩
theorem Fr.set {W : World} {g n j : Nat} {f : Nat → Int} (h : Fr W g n j f) (hj : j < n) : Fr (W.setCell ⟨g, j, none⟩ (.int .i64 (f j))) g n (j + 1) f := fun k hk => by
  obtain ⟨h1, h2⟩ := h k hk
  refine ⟨?_, (World.frozen?_setCell ..).trans h2⟩
  by_cases e : k = j
  · subst e
    exact (same h1).trans (by simp)
  · rw [other (by intro h3; exact e (congrArg Addr.off h3).symm), h1]
    have e2 : (k < j + 1) = (k < j) := by simp; omega
    simp only [e2]
theorem Fr.start (W : World) (n : Nat) (f : Nat → Int) : Fr (W.alloc (.cells (zeroInts n) 3)) W.heap.size n 0 f := fun k hk =>
  ⟨by rw [World.cell?_alloc_new]; simp only [Nat.not_lt_zero, if_false]; exact zeroInts_at n k hk, World.frozen?_alloc_at _ _ _ _ rfl⟩

theorem Tn.fr {w wr w3 : World} {H g n j : Nat} {d d1 : Ids} {s1 s2 : St} {m1 m2 : Nat} {f : Nat → Int} (h : Tn w H d wr d1 s1 m1) (k : To wr w3 H d1 s2 m2) (hf : Fr wr g n j f) (hg : ¬ Mine H d1 g) (hj : j < n) :
    ∃ d3, Tn w H d w3 d3 s2 m2 ∧ Fr w3 g n j f ∧ ¬ Mine H d3 g := by
  obtain ⟨d3, h3, h4, h5⟩ := k
  have hs := h.chg.size
  have hl : g < wr.heap.size := World.block_lt_of_cell? wr _ (hf j hj).1
  exact ⟨d3, ⟨h3, h.chg.trans h4 h.grow, fun j hj => (h5 j hj).elim (h.grow j) (fun e => .inr (by omega))⟩, hf.chg h4 hg, fun e => (h5 g e).elim hg (by omega)⟩
theorem Tn.lay {w wr : World} {H g n j : Nat} {d d1 : Ids} {s1 : St} {m1 : Nat} {f : Nat → Int} (h : Tn w H d wr d1 s1 m1) (hf : Fr wr g n j f) (hg : ¬ Mine H d1 g) (hj : j < n) (hw : w.heap.size ≤ g) :
    Tn w H d (wr.setCell ⟨g, j, none⟩ (.int .i64 (f j))) d1 s1 m1 ∧ Fr (wr.setCell ⟨g, j, none⟩ (.int .i64 (f j))) g n (j + 1) f :=
  ⟨⟨h.is.chg (S := fun k => k = g) (Chg.set (S := fun k => k = g) (Chg.refl _ _) (.inl rfl) _) (fun _ hk e => hg (e ▸ hk)), h.chg.set (.inr hw) _, h.grow⟩, hf.set hj⟩
theorem Fr.rd {W : World} {g n : Nat} {l : List Int} {f : Nat → Int} (h : Fr W g n n f) (hl : l.length = n) (hf : ∀ k, k < n → l.getD k 0 = f k) : Rd W (some ⟨g, 0, none⟩) l :=
  .inr ⟨g, 0, rfl, fun j hj => by rw [Nat.zero_add, (h j (by omega)).1, if_pos (by omega), hf j (by omega)]⟩

set_option maxRecDepth 100000 in
set_option maxHeartbeats 4000000 in
theorem flds_any {H : Nat} {d : Ids} {s : St} {m : Nat} (a : Int) (w : World) (h : Is w H d s m) (ht : Tabs w) (hm : m < 800000) :
    Calls Tryz.prog 34 #[.pointer (some ⟨H, 0, none⟩), .int .i64 a] w fun e w' => ∃ p cap d', e = .returned (.slice p (fs s a).length cap) ∧ Rd w' p (fs s a) ∧ (∀ g, rowB p g → w.heap.size ≤ g ∧ ¬ Mine H d' g) ∧ Tn w H d w' d' s (m + 40) := by
  have HIS := Lib.hid (isO_any a w h)
  have HH := Lib.hid h
  have HT := Lib.hid ht
  cases hb : bnI s a with
  | false =>
    rw [fs_no hb]
    rw [hb] at HIS
    clear h ht
    go_enter Tryz.func34, Tryz.ntmps34
    go_wp2_with (go_at_call 39; refine HIS.out.mono ?_; rintro e w' ⟨rfl, q, rfl⟩)
    go_ret
    exact ⟨none, 0, d, rfl, Rd.nil _, fun g hg => absurd hg (Row.rowB_none g), (Tn.refl HH.out).later (below_drewN (Below.refl _ _) q) |>.more (by omega)⟩
  | true =>
    rw [hb] at HIS
    obtain ⟨hn15, hE⟩ := obj_fN h.wf hb
    have HF := Lib.hid (fun q => fields_any a (w.drewN q) (h.drewN q) (ht.later (below_drewN (Below.refl _ _) q)) (by omega))
    have HLN := Lib.hid (fs_len hb)
    have HAT := Lib.hid (fun k (hk : k < fN s a) => fs_at hb hk)
    rw [HLN.out]
    generalize hn : fN s a = n at *
    have hmk := make_ints n (by omega)
    clear h ht hn hE
    go_enter Tryz.func34, Tryz.ntmps34
    go_wp2_with (first
      | (go_at_call 39; refine HIS.out.mono ?_; rintro e w' ⟨rfl, q, rfl⟩)
      | (go_at_call 26; refine (HF.out q).mono ?_; rintro e w2 ⟨rfl, hT2⟩))
    obtain ⟨d2, hT3⟩ := ((Tn.refl HH.out).later (below_drewN (Below.refl w.heap.size w) q)).to hT2
    have HT2 := Lib.hid hT3
    clear hT2 hT3
    go_wp2
    generalize hX : World.alloc _ _ = X
    have hFr : Fr X w2.heap.size n 0 (fun k => lV s a (k : Nat)) := by rw [← hX]; exact Fr.start w2 n _
    have hbX : Below w2.heap.size w2 X := by rw [← hX]; exact (Below.refl _ _).alloc (Nat.le_refl _) _
    have hsw : w.heap.size ≤ w2.heap.size := HT2.out.chg.size
    have HX := Lib.hid (show Tn w H d X d2 s (m + 1) ∧ Fr X w2.heap.size n 0 (fun k => lV s a (k : Nat)) ∧ ¬ Mine H d2 w2.heap.size from ⟨HT2.out.later hbX, hFr, not_mine HT2.out.is (Nat.le_refl _)⟩)
    have HGE := Lib.hid hsw
    clear hX hFr hbX hsw HT2 HF HIS
    generalize w2.heap.size = g at *
    clear w2
    go_loopw [23] (fun x wr => ∃ (j : Nat) (d' : Ids), j ≤ n ∧ x = .int .i64 (j : Int) ∧ Tn w H d wr d' s (m + 1 + 2 * j) ∧ Fr wr g n j (fun k => lV s a (k : Nat)) ∧ ¬ Mine H d' g) (fun x _ => n - (intOf x).toNat)
    case atStart => exact ⟨0, d2, Nat.zero_le _, rfl, HX.out⟩
    case round =>
      obtain ⟨j, d', hj, rfl, hT, hFr, hnm⟩ := hrel
      have HT3 := Lib.hid hT
      have HFR := Lib.hid hFr
      have HNM := Lib.hid hnm
      clear hT hFr hnm HX
      by_cases hlt : j < n
      · have j0 : (0 : Int) ≤ (j : Int) := Int.natCast_nonneg _
        have j1 : (j : Int) < (n : Int) := by omega
        have HL := Lib.hid (load_any a (j : Nat) wr HT3.out.is (HT3.out.tabs HH.out HT.out) (by omega))
        go_wp2_with (go_at_call 20; refine HL.out.mono ?_; rintro e w3 ⟨rfl, hT4⟩; obtain ⟨d3, q1, q2, q3⟩ := HT3.out.fr hT4 HFR.out HNM.out hlt; have HT5 := Lib.hid q1; have HFR5 := Lib.hid q2; have HNM5 := Lib.hid q3; obtain ⟨c1, c2⟩ := q2 j hlt; clear hT4 q1 q2 q3)
        go_roundw
        case rel =>
          obtain ⟨z1, z2⟩ := HT5.out.lay HFR5.out HNM5.out hlt HGE.out
          exact ⟨j + 1, d3, by omega, by go_num, z1.more (by omega), z2, HNM5.out⟩
        case measure => simp [intOf]; omega
      · have j1 : ¬ (j : Int) < (n : Int) := by omega
        obtain rfl : j = n := by omega
        go_wp2
        go_ret
        exact ⟨some ⟨g, 0, none⟩, ⟨_, rfl⟩, HFR.out.rd HLN.out HAT.out, d', (fun g' hg' => (by have e : g = g' := (by simpa [rowB] using hg'); exact e ▸ ⟨HGE.out, HNM.out⟩)), HT3.out.more (by omega)⟩
end Go.Proofs.YtpcgmkchflmcmaaGreatDoor.Tr

namespace Go.Proofs.YtpcgmkchflmcmaaGreatDoor.Tr
open Go.RowKit Go.Shelf
open Class (below_drewN)
open Blk (Cfg allP)
open Hp (isO_any fields_any load_any Ids St Wf Is To Mine bn bnI bnI_nat fN fE lE lV objL not_mine two_new)
open Go.Proofs.YtpcgmkchflmcmaaGreatDoor.Row (Chg Rd Rd0 rowB cell_of_block frozen_of_block other same cellsZ cellsZ_length cellsZ_at)
open Go.Proofs.YtpcgmkchflmcmaaGreatDoor.Addr (Tabs)
attribute [local go_sem] Oper.semAt_some

/-- The first fields that aren't 0: number and value. -/
def eP (l : List Int) (j : Nat) : List (Nat × Int) := ((List.range j).map fun k => (k, l.getD k 0)).filter fun q => !(q.2 == 0)
def eA (l : List Int) : List (Nat × Int) := eP l l.length
theorem eP_zero (l : List Int) : eP l 0 = [] := by simp [eP]
theorem eP_succ (l : List Int) (j : Nat) : eP l (j + 1) = eP l j ++ (if (!(l.getD j 0 == 0)) = true then [(j, l.getD j 0)] else []) := by
  simp only [eP, List.range_succ, List.map_append, List.filter_append, List.map_cons, List.map_nil]
  congr 1
  by_cases h : (!(l.getD j 0 == 0)) = true
  · rw [if_pos h, List.filter_cons, if_pos h]; rfl
  · rw [if_neg h, List.filter_cons, if_neg h]; rfl
theorem eP_prefix (l : List Int) {i j : Nat} (h : i ≤ j) : eP l i <+: eP l j := by
  induction j with
  | zero => obtain rfl : i = 0 := by omega
            exact List.prefix_refl _
  | succ j ih =>
    by_cases e : i = j + 1
    · rw [e]; exact List.prefix_refl _
    · rw [eP_succ]
      exact (ih (by omega)).trans (List.prefix_append _ _)
theorem eP_no (l : List Int) {j : Nat} (h : l.getD j 0 = 0) : eP l (j + 1) = eP l j := by rw [eP_succ, h]; simp
theorem eP_at (l : List Int) {j : Nat} (hj : j < l.length) (h : l.getD j 0 ≠ 0) : (eP l j).length < (eA l).length ∧ (eA l).getD (eP l j).length (0, 0) = (j, l.getD j 0) ∧ (eP l (j + 1)).length = (eP l j).length + 1 := by
  have e : eP l (j + 1) = eP l j ++ [(j, l.getD j 0)] := by rw [eP_succ, if_pos (by simpa using h)]
  obtain ⟨t, ht⟩ := eP_prefix l (i := j + 1) (j := l.length) hj
  rw [e] at ht
  have e2 : eA l = eP l j ++ [(j, l.getD j 0)] ++ t := ht.symm
  refine ⟨by rw [e2]; simp only [List.length_append, List.length_singleton]; omega, ?_, by rw [e]; simp⟩
  rw [e2, List.getD_eq_getElem?_getD, List.append_assoc, List.getElem?_append_right (Nat.le_refl _), Nat.sub_self]
  rfl
theorem eA_vals (l : List Int) : (eA l).map (·.2) = l.filter fun v => !(v == 0) := by
  unfold eA eP
  have e : l = (List.range l.length).map fun k => l.getD k 0 := by
    apply List.ext_getElem?
    intro i
    rw [List.getElem?_map]
    by_cases h : i < l.length
    · rw [List.getElem?_range h]
      simp [List.getD_eq_getElem?_getD, h]
    · rw [List.getElem?_eq_none (by omega), List.getElem?_eq_none (by simp; omega)]
      rfl
  conv => rhs; rw [e]
  rw [List.filter_map, List.filter_map, List.map_map]
  rfl
/-- What an edge is told as. -/
def eK (l : List Int) (i : Nat) : Nat := ((eA l).getD i (0, 0)).1
def eV (l : List Int) (i : Nat) : Int := ((eA l).getD i (0, 0)).2
def encE (l : List Int) (i : Nat) : Array Value := #[.int .i64 (eK l i : Int), .int .i64 (eV l i)]

theorem edges_any (q : Option Addr) (a : Int) (w : World) : Calls Tryz.prog 19 #[.pointer q, .int .i64 a] w fun e w' => e = .returned (.func (.func 33) #[] #[.pointer (some ⟨w.heap.size, 0, none⟩), .pointer (some ⟨w.heap.size + 1, 0, none⟩)]) ∧
    (w.alloc (.cells #[.pointer q] 32)).alloc (.cells #[.int .i64 a] 3) = w' := by
  go_enter Tryz.func19, Tryz.ntmps19
  go_wp2
  go_ret
  exact ⟨rfl, rfl⟩

/-- What Edges turns as it opens; what it keeps to itself. -/
def OpE (H : Nat) (d : Ids) (s : St) (mm : Nat) (X Y : World) (G : Nat → Prop) : Prop := ∃ d', Tn X H d Y d' s (mm + 40) ∧ ∀ k, G k → X.heap.size ≤ k ∧ ¬ Mine H d' k

set_option maxRecDepth 100000 in
set_option maxHeartbeats 4000000 in
theorem edges1_open {H : Nat} {d : Ids} {s : St} {mm : Nat} (m Bh Ba : Nat) (a : Int) (hm : mm < 800000) (hw : Wf s) (w : World) :
    SeqOpen Fence.wide m Tryz.prog 33 #[.pointer (some ⟨Bh, 0, none⟩), .pointer (some ⟨Ba, 0, none⟩)] (eA (fs s a)).length (encE (fs s a)) (OpE H d s mm)
      (fun W => Is W H d s mm ∧ Tabs W ∧ W.cell? ⟨Bh, 0, none⟩ = some (.pointer (some ⟨H, 0, none⟩)) ∧ W.cell? ⟨Ba, 0, none⟩ = some (.int .i64 a)) w := by
  refine SeqOpen.any (n := 4) ?_
  rintro l J Jx W hW ⟨hI, hT, hBh, hBa⟩ hJ hJx hY h0
  have HF := Lib.hid (flds_any a W hI hT hm)
  have hlen : (fs s a).length ≤ 15 := by
    cases hb : bnI s a with
    | false => rw [fs_no hb]; simp
    | true => rw [fs_len hb]; exact (obj_fN hw hb).1
  have H0 := Lib.hid h0
  have HY := Lib.hid hY
  have HJ := Lib.hid hJ
  clear hI hT hJ hJx h0 hY hW
  refine callsIn_of_wp Tryz.func33 rfl trivial ?_ rfl
  simp only [Tryz.ntmps33, List.size_toArray, List.length_cons, List.length_nil, Nat.reduceAdd, Nat.reduceSub, Array.replicate_succ, Array.replicate_zero, List.push_toArray, List.append_toArray, List.nil_append, List.cons_append]
  generalize fs s a = fl at *
  gi_wp2_with (refine ⟨trivial, ?_⟩; gi_at_call 34; refine (callsIn_wide.2 HF.out).mono ?_; rintro e W1 ⟨p, cap, d', rfl, hrd, hap, hTn⟩)
  obtain ⟨O0, hj0, hO0⟩ := H0.out W1 (rowB p) ⟨d', hTn, fun k hk => hap k hk⟩
  have hsz1 : W.heap.size ≤ W1.heap.size := hTn.chg.size
  have HST := Lib.hid (show J O0 0 W1 ∧ (∀ k, O0 k → k < W1.heap.size) ∧ (∀ g, rowB p g → W.heap.size ≤ g ∧ ¬ O0 g) from ⟨hj0, fun k hk => (hO0 k hk).1, fun g hg => ⟨(hap g hg).1, fun h => (hO0 g h).2 hg⟩⟩)
  have HRD := Lib.hid hrd
  clear hj0 hO0 hrd hap hTn HF H0 hBh hBa
  gi_loopw [10] (fun x wr => ∃ (j : Nat) (O : Nat → Prop), j ≤ fl.length ∧ x = .int .i64 (j : Int) ∧ W.heap.size ≤ wr.heap.size ∧ Rd wr p fl ∧ J O (eP fl j).length wr ∧ (∀ k, O k → k < wr.heap.size) ∧ ∀ g, rowB p g → W.heap.size ≤ g ∧ ¬ O g)
    (fun x _ => fl.length - (intOf x).toNat)
  case atStart => exact ⟨0, O0, Nat.zero_le _, rfl, hsz1, HRD.out, by rw [eP_zero]; exact HST.out.1, HST.out.2⟩
  case round =>
    obtain ⟨j, O, hj, rfl, hsz, hrd, hJm, hOm, hap⟩ := hrel
    by_cases hlt : j < fl.length
    · have j0 : (0 : Int) ≤ (j : Int) := Int.natCast_nonneg _
      have j1 : (j : Int) < (fl.length : Int) := by omega
      obtain ⟨g, off, hp, hc⟩ := hrd.at hlt
      have hgl : ∀ g, rowB p g → g < wr.heap.size := fun g hg => hrd.lt hg (by omega)
      by_cases hv : fl.getD j 0 = 0
      · have HN := Lib.hid (eP_no fl hv)
        rw [hv] at hc
        have HRD2 := Lib.hid (show Rd wr p fl ∧ J O (eP fl j).length wr ∧ (∀ k, O k → k < wr.heap.size) ∧ ∀ g, rowB p g → W.heap.size ≤ g ∧ ¬ O g from ⟨hrd, hJm, hOm, hap⟩)
        subst hp
        clear hrd hJm hOm hap hv hgl HST HRD
        have hz0 : ((0 : Int) != 0) = false := rfl
        gi_wp2
        refine ⟨fun _ h => (by cases h), ?_⟩
        gi_wp2
        go_roundw
        case rel => exact ⟨j + 1, O, by omega, by go_num, hsz, HRD2.out.1, by rw [HN.out]; exact HRD2.out.2.1, HRD2.out.2.2⟩
        case measure => simp [intOf]; omega
      · have hv2 : (fl.getD j 0 == 0) = false := by simpa using hv
        have hv3 : (fl.getD j 0 != 0) = true := by simpa using hv
        obtain ⟨e1, e2, e3⟩ := eP_at fl hlt hv
        obtain ⟨fn, tmps, asg, bdy, hy, hR⟩ := HY.out O _ wr e1 hJm hOm hsz
        unfold encE eK eV at hy
        rw [e2] at hy
        simp only at hy
        have HF2 := Lib.hid (fun (O' : Nat → Prop) (W3 : World) (ht : Turn W.heap.size O O' wr W3) => (⟨Nat.le_trans hsz ht.size, hrd.kept (fun g hg _ => ht.keep g (hap g hg).1 (hgl g hg) (hap g hg).2), ht.lt, fun g hg => ⟨(hap g hg).1, fun h => (ht.grow g h).elim (hap g hg).2 (fun h2 => by have := hgl g hg; omega)⟩⟩ : W.heap.size ≤ W3.heap.size ∧ Rd W3 p fl ∧ (∀ k, O' k → k < W3.heap.size) ∧ ∀ g, rowB p g → W.heap.size ≤ g ∧ ¬ O' g))
        have HE := Lib.hid (And.intro e1 e3)
        subst hp
        clear hrd hJm hOm hap hv hgl e1 e2 e3 HST HRD
        generalize fl.getD j 0 = v at *
        gi_wp2
        refine hR.mono ?_
        rintro e W3 ⟨O', ht3, (⟨rfl, hJ3⟩ | ⟨rfl, hJx3⟩)⟩
        · obtain ⟨z1, z2⟩ := HF2.out O' W3 ht3
          gi_wp2
          go_roundw
          case rel => exact ⟨j + 1, O', by omega, by go_num, z1, z2.1, by rw [HE.out.2]; exact hJ3, z2.2⟩
          case measure => simp [intOf]; omega
        · obtain ⟨z1, z2, z3, z4⟩ := HF2.out O' W3 ht3
          gi_wp2
          refine bodyPost_ret (results_none rfl _ _ _) rfl ?_
          exact ⟨⟨_, rfl⟩, O', z3, z1, .inr ⟨_, HE.out.1, hJx3⟩⟩
    · have j1 : ¬ (j : Int) < (fl.length : Int) := by omega
      obtain rfl : j = fl.length := by omega
      gi_wp2
      go_end0
      exact ⟨⟨_, rfl⟩, O, hOm, hsz, .inl hJm⟩
end Go.Proofs.YtpcgmkchflmcmaaGreatDoor.Tr

namespace Go.Proofs.YtpcgmkchflmcmaaGreatDoor.Tr
open Go.RowKit Go.Shelf
open Class (below_drewN)
open Blk (Cfg allP)
open Hp (isO_any fields_any load_any Ids St Wf Is To Mine bn bnI bnI_nat fN fE lE lV objL not_mine two_new)
open Go.Proofs.YtpcgmkchflmcmaaGreatDoor.Row (Chg Rd Rd0 rowB cell_of_block frozen_of_block other same cellsZ cellsZ_length cellsZ_at)
open Go.Proofs.YtpcgmkchflmcmaaGreatDoor.Addr (Tabs)
attribute [local go_sem] Oper.semAt_some

/-- A function that is handed numbers, one behind the other: what it keeps, in its own blocks, beside a heap. -/
structure Meets (mf : Nat) (bs cs : Array Value) (H : Nat) (s : St) (vb : Nat) (K0 : (Nat → Prop) → World → Prop) (Kp : (Nat → Prop) → List Int → World → Prop) : Prop where
  enter : ∀ args w, (callFunc mf args).run Tryz.prog w = .ok (.enter mf args) w
  stab : ∀ O l X Y, Kp O l X → Below vb X Y → (∀ k, O k → Y.heap[k]? = X.heap[k]?) → Kp O l Y
  stab0 : ∀ O X Y, K0 O X → Below vb X Y → (∀ k, O k → Y.heap[k]? = X.heap[k]?) → K0 O Y
  lt0 : ∀ O X, K0 O X → ∀ k, O k → k < X.heap.size
  lt : ∀ O l X, Kp O l X → ∀ k, O k → k < X.heap.size
  call : ∀ O l v X, Kp O l X → Calls Tryz.prog mf (bs.push (.int .i64 v) ++ cs) X fun e X' => (∃ u, e = .returned u) ∧ ∃ O', Kp O' (l ++ [v]) X' ∧ Chg O X X' ∧ ∀ k, O' k → O k ∨ X.heap.size ≤ k
  heap : ∀ O X, K0 O X → ∃ d m, Is X H d s m ∧ Tabs X ∧ m < 800000 ∧ (∀ k, Mine H d k → O k) ∧ ∀ X', Is X' H d s m → K0 O X' → ∀ Y d', Tn X' H d Y d' s (m + 40) → ∃ O', Kp O' [] Y ∧ ∀ k, O' k → Mine H d' k ∨ O k

/-- What look has handed on, and what it has turned. -/
def Lk (Kp : (Nat → Prop) → List Int → World → Prop) (l : List Int) (w : World) (B : Nat) (O : Nat → Prop) (f : Value) (O2 : Nat → Prop) (i : Nat) (Y : World) : Prop :=
  ∃ O1, Kp O1 (((eA l).take i).map (·.2)) Y ∧ Chg O w Y ∧ (∀ k, O1 k → O k ∨ B ≤ k) ∧ (∀ k, O1 k → k < B ∨ O2 k) ∧ Boxed Y w.heap.size 112 f

theorem take_next (l : List (Nat × Int)) {i : Nat} (h : i < l.length) : (l.take (i + 1)).map (·.2) = (l.take i).map (·.2) ++ [(l.getD i (0, 0)).2] := by
  rw [List.take_add_one, List.map_append, List.getElem?_eq_getElem h, List.getD_eq_getElem?_getD, List.getElem?_eq_getElem h]
  rfl

set_option maxRecDepth 100000 in
set_option maxHeartbeats 4000000 in
theorem look_any {mf : Nat} {bs cs : Array Value} {H : Nat} {s : St} {K0 : (Nat → Prop) → World → Prop} {Kp : (Nat → Prop) → List Int → World → Prop} {vb : Nat} (hM : Meets mf bs cs H s vb K0 Kp) (hw : Wf s) (a : Int) (O : Nat → Prop) (w : World) (h : K0 O w) (hvb : vb ≤ w.heap.size) :
    Calls Tryz.prog 62 #[.pointer (some ⟨H, 0, none⟩), .int .i64 a, .func (.func mf) bs cs] w fun e w' => (∃ v, e = .returned v) ∧ ∃ O', Kp O' ((fs s a).filter fun v => !(v == 0)) w' ∧ Chg O w w' ∧ ∀ k, O' k → O k ∨ w.heap.size ≤ k := by
  obtain ⟨d, m, hI, hT, hm, hmo, hop⟩ := hM.heap O w h
  have HO := Lib.hid (hM.lt0 O w h)
  have HM := Lib.hid hM
  have HI := Lib.hid hI
  have HT := Lib.hid hT
  have HMO := Lib.hid hmo
  have HK := Lib.hid h
  have HOP := Lib.hid hop
  clear hM hI hT hmo h hop
  have eg := HM.out.enter
  refine (callsIn_wide (n := 8)).1 ?_
  refine callsIn_of_wp_marks Tryz.func62 rfl trivial ?_ rfl
  simp only [Tryz.ntmps62, List.size_toArray, List.length_cons, List.length_nil, Nat.reduceAdd, Nat.reduceSub, Array.replicate_succ, Array.replicate_zero, List.push_toArray, List.append_toArray, List.nil_append, List.cons_append]
  gi_wp2_with (refine ⟨trivial, ?_⟩; gi_at_call 19; refine (callsIn_wide.2 (edges_any _ _ _)).mono ?_; rintro e w'' ⟨rfl, rfl⟩)
  generalize hX : World.alloc _ _ = X
  have bX : Below w.heap.size w X := by rw [← hX]; exact (((Below.refl _ _).alloc (Nat.le_refl _) _).alloc (by simp) _).alloc (by simp; omega) _
  have hsX : X.heap.size = w.heap.size + 3 := by rw [← hX]; simp
  have xf : Boxed X w.heap.size 112 (.func (.func mf) bs cs) := by rw [← hX]; exact ((Boxed.new _ _ _).alloc _).alloc _
  have xh : Boxed X (w.heap.size + 1) 32 (.pointer (some ⟨H, 0, none⟩)) := by rw [← hX]; exact (boxed_new (by simp)).alloc _
  have xa : Boxed X (w.heap.size + 2) 3 (.int .i64 a) := by rw [← hX]; exact boxed_new (by simp)
  clear hX
  have HB := Lib.hid bX
  have HMI := Lib.hid (fun k (hk : Mine H d k) => HO.out k (HMO.out k hk))
  have hN := HI.out.wf
  refine wpIn_rangeFunc_open rfl (by decide) (gf := 33) (lb := #[.pointer (some ⟨w.heap.size + 1, 0, none⟩), .pointer (some ⟨w.heap.size + 1 + 1, 0, none⟩)]) rfl trivial (enters_of Tryz.func33 (by kernel_rfl) rfl)
    (N := (eA (fs s a)).length) (encs := encE (fs s a)) (R := OpE H d s m) (edges1_open 7 (w.heap.size + 1) (w.heap.size + 1 + 1) a hm hw X) (Below.refl _ _) (fun _ => rfl)
    (Lk Kp (fs s a) w X.heap.size O (.func (.func mf) bs cs)) (fun _ _ _ _ => False) ?hI (fun _ _ _ _ _ h => h.elim) ?hT ?hR ?h0
    (fun i => { tmps := #[.pointer (some ⟨H, 0, none⟩), .int .i64 a, .func (.func mf) bs cs, undef, undef, .pointer (some ⟨w.heap.size, 0, none⟩), undef, .int .i64 (eV (fs s a) i), .pointer (some ⟨H, 0, none⟩), .int .i64 a, .func (.func 33) #[] #[.pointer (some ⟨w.heap.size + 1, 0, none⟩), .pointer (some ⟨w.heap.size + 1 + 1, 0, none⟩)], .int .i64 (eK (fs s a) i : Int), .int .i64 (eV (fs s a) i), undef, undef, undef], defers := [] }) ?assign ?body ?done (fun _ _ _ _ _ _ _ h => h.elim)
  case hI =>
    rintro O2 i X' Y ⟨O1, h1, h2, h3, h4, h5⟩ hb hk
    refine ⟨O1, HM.out.stab _ _ _ _ h1 (hb.mono (by omega)) (fun k hk1 => (h4 k hk1).elim (fun e => hb.block k e) (fun e => hk k e)), ?_, h3, h4, Boxed.below h5 hb (by omega)⟩
    exact h2.trans (T := fun k => X.heap.size ≤ k) ⟨hb.os, hb.tape, hb.output, hb.size, fun k _ h1 => hb.block k (by omega)⟩ (fun k hk => .inr (by omega))
  case hT =>
    intro W hb
    have hb2 := HB.out.trans (hb.mono HB.out.size)
    exact ⟨HI.out.later hb2, HT.out.later hb2, (Boxed.below xh hb (by omega)).cell, (Boxed.below xa hb (by omega)).cell⟩
  case hR =>
    rintro X' Y G k hs hb ⟨d', hT, _⟩ h1 h2
    exact hT.chg.block k h2 (fun e => by have := HMI.out k e; omega)
  case h0 =>
    rintro X' Y G hs hb ⟨d', hT, hG⟩
    have hb2 := HB.out.trans (hb.mono HB.out.size)
    have hK2 : K0 O X' := HM.out.stab0 _ _ _ HK.out (hb2.mono hvb) (fun k hk => hb2.block k (HO.out k hk))
    obtain ⟨O1, g1, g2⟩ := HOP.out X' (HI.out.later hb2) hK2 Y d' hT
    have hsz : X'.heap.size ≤ Y.heap.size := hT.chg.size
    have hd : ∀ k, O1 k → O k ∨ X'.heap.size ≤ k := fun k hk => (g2 k hk).elim (fun e => (hT.grow k e).imp (HMO.out k) id) .inl
    refine ⟨O1, ⟨O1, by simpa using g1, ?_, fun k hk => (hd k hk).imp id (fun e => by omega), fun k hk => .inr hk, ?_⟩, fun k hk => ⟨HM.out.lt _ _ _ g1 k hk, fun hg => ?_⟩, fun k hk => (hd k hk).imp (fun e => by have := HO.out k e; omega) id⟩
    · exact (Chg.of_below (S := O) hb2).trans hT.chg (fun k hk => .inl (HMO.out k hk))
    · exact (hT.chg.block w.heap.size (by omega) (fun e => by have := HMI.out _ e; omega)).trans (Boxed.below xf hb (by omega))
    · obtain ⟨q1, q2⟩ := hG k hg
      rcases g2 k hk with e | e
      · exact q2 e
      · have := HO.out k e; have := hb2.size; omega
  case assign =>
    intro l i Y K hi hK
    unfold encE
    gi_wp2
    exact hK
  case body =>
    rintro l O2 i Y hl _ hi ⟨O1, h1, h2, h3, h4, h5⟩ hlt hsz
    have kf := h5.cell
    have HC := Lib.hid (HM.out.call O1 _ (eV (fs s a) i) Y h1)
    have HE : Hid (((eA (fs s a)).take (i + 1)).map (·.2) = ((eA (fs s a)).take i).map (·.2) ++ [eV (fs s a) i]) := Lib.hid (take_next (eA (fs s a)) hi)
    have H1 := Lib.hid h1
    have H2 := Lib.hid h2
    have H3 := Lib.hid h3
    have H4 := Lib.hid h4
    have H5 := Lib.hid h5
    have HLT := Lib.hid hlt
    clear h1 h2 h3 h4 h5 hlt xf xh xa hN
    gi_wp2_with (refine ⟨trivial, ?_⟩; refine (CallsIn.inRound l (callsIn_wide.2 HC.out)).mono ?_; rintro e Y' ⟨⟨u, rfl⟩, O', hk', hc', hg'⟩)
    refine ⟨fun k => O2 k ∨ (O' k ∧ X.heap.size ≤ k), ⟨hc'.size, fun k c1 c2 c3 => hc'.block k c2 (fun e => (H4.out k e).elim (by omega) c3), fun k hk => hk.elim .inl (fun e => (hg' k e.1).elim (fun e2 => (H4.out k e2).elim (fun e3 => by have := e.2; omega) .inl) .inr), fun k hk => hk.elim (fun e => by have := HLT.out k e; have := hc'.size; omega) (fun e => HM.out.lt _ _ _ hk' k e.1)⟩, O', ?_, H2.out.trans hc' (fun k hk => (H3.out k hk).imp id (fun e => by omega)), fun k hk => (hg' k hk).elim (H3.out k) (fun e => .inr (by omega)), fun k hk => ?_, ?_⟩
    · rw [HE.out]; exact hk'
    · by_cases e : k < X.heap.size
      · exact .inl e
      · exact .inr (.inr ⟨hk, by omega⟩)
    · exact (hc'.block w.heap.size (by omega) (fun e => (H3.out _ e).elim (fun e2 => by have := HO.out _ e2; omega) (by omega))).trans H5.out
  case done =>
    rintro D O2 Y hD ⟨O1, h1, h2, h3, h4, h5⟩ hn hlt hK
    have hfin : Kp O1 ((fs s a).filter fun v => !(v == 0)) (Y.putObj D (.deferred none)) ∧ Chg O w (Y.putObj D (.deferred none)) ∧ ∀ k, O1 k → O k ∨ w.heap.size ≤ k := by
      refine ⟨?_, h2.trans (T := fun k => k = D) ⟨rfl, rfl, rfl, by simp, fun k _ h1 => World.putObj_heap_other (by exact h1)⟩ (fun k hk => .inr (by omega)), fun k hk => (h3 k hk).imp id (fun e => by omega)⟩
      rw [← eA_vals, ← List.take_length (l := eA (fs s a))]
      exact HM.out.stab _ _ _ _ h1 (below_putObj (by omega) _ _) (fun k hk => World.putObj_heap_other (fun e => (h4 k hk).elim (fun e2 => by omega) (fun e2 => hn (e ▸ e2))))
    have HF := Lib.hid hfin
    clear hfin h1 h2 h3 h4 h5 xf xh xa hN
    gi_wp2
    refine ⟨by simp, .inl ⟨_, _, rfl, run_takeDeferred hK, ?_⟩⟩
    exact ⟨_, results_none rfl _ _ _, ⟨_, rfl⟩, O1, HF.out⟩
end Go.Proofs.YtpcgmkchflmcmaaGreatDoor.Tr
