/-
  Edges, as an iterator that opens by the fields' loads.
-/
import Derived.Test.YtpcgmkchflmcmaaGreatDoorTrC
namespace Go.Proofs.YtpcgmkchflmcmaaGreatDoor.Tr
open Go.RowKit Go.Shelf
open Class (below_drewN)
open Blk (Cfg allP)
open Hp (isO_any fields_any load_any Ids St Wf Is To Mine bn bnI bnI_nat fN fE lE lV objL not_mine two_new)
open Go.Proofs.YtpcgmkchflmcmaaGreatDoor.Row (Chg Rd Rd0 rowB cell_of_block frozen_of_block other same cellsZ cellsZ_length cellsZ_at)
open Go.Proofs.YtpcgmkchflmcmaaGreatDoor.Addr (Tabs)
attribute [local go_sem] Oper.semAt_some

/-- The first fields that aren't 0: number and value. -/
def eP (l : List Int) (j : Nat) : List (Nat × Int) := ((List.range j).map fun k => (k, l.getD k 0)).filter fun q => !(q.2 == 0)
def eA (l : List Int) : List (Nat × Int) := eP l l.length
theorem eP_zero (l : List Int) : eP l 0 = [] := by simp [eP]
theorem eP_succ (l : List Int) (j : Nat) : eP l (j + 1) = eP l j ++ (if (!(l.getD j 0 == 0)) = true then [(j, l.getD j 0)] else []) := by
  simp only [eP, List.range_succ, List.map_append, List.filter_append, List.map_cons, List.map_nil]
  congr 1
  by_cases h : (!(l.getD j 0 == 0)) = true
  · rw [if_pos h, List.filter_cons, if_pos h]; rfl
  · rw [if_neg h, List.filter_cons, if_neg h]; rfl
theorem eP_prefix (l : List Int) {i j : Nat} (h : i ≤ j) : eP l i <+: eP l j := by
  induction j with
  | zero => obtain rfl : i = 0 := by omega
            exact List.prefix_refl _
  | succ j ih =>
    by_cases e : i = j + 1
    · rw [e]; exact List.prefix_refl _
    · rw [eP_succ]
      exact (ih (by omega)).trans (List.prefix_append _ _)
theorem eP_no (l : List Int) {j : Nat} (h : l.getD j 0 = 0) : eP l (j + 1) = eP l j := by rw [eP_succ, h]; simp
theorem eP_at (l : List Int) {j : Nat} (hj : j < l.length) (h : l.getD j 0 ≠ 0) : (eP l j).length < (eA l).length ∧ (eA l).getD (eP l j).length (0, 0) = (j, l.getD j 0) ∧ (eP l (j + 1)).length = (eP l j).length + 1 := by
  have e : eP l (j + 1) = eP l j ++ [(j, l.getD j 0)] := by rw [eP_succ, if_pos (by simpa using h)]
  obtain ⟨t, ht⟩ := eP_prefix l (i := j + 1) (j := l.length) hj
  rw [e] at ht
  have e2 : eA l = eP l j ++ [(j, l.getD j 0)] ++ t := ht.symm
  refine ⟨by rw [e2]; simp only [List.length_append, List.length_singleton]; omega, ?_, by rw [e]; simp⟩
  rw [e2, List.getD_eq_getElem?_getD, List.append_assoc, List.getElem?_append_right (Nat.le_refl _), Nat.sub_self]
  rfl
theorem eA_vals (l : List Int) : (eA l).map (·.2) = l.filter fun v => !(v == 0) := by
  unfold eA eP
  have e : l = (List.range l.length).map fun k => l.getD k 0 := by
    apply List.ext_getElem?
    intro i
    rw [List.getElem?_map]
    by_cases h : i < l.length
    · rw [List.getElem?_range h]
      simp [List.getD_eq_getElem?_getD, h]
    · rw [List.getElem?_eq_none (by omega), List.getElem?_eq_none (by simp; omega)]
      rfl
  conv => rhs; rw [e]
  rw [List.filter_map, List.filter_map, List.map_map]
  rfl
/-- What an edge is told as. -/
def eK (l : List Int) (i : Nat) : Nat := ((eA l).getD i (0, 0)).1
def eV (l : List Int) (i : Nat) : Int := ((eA l).getD i (0, 0)).2
def encE (l : List Int) (i : Nat) : Array Value := #[.int .i64 (eK l i : Int), .int .i64 (eV l i)]

theorem edges_any (q : Option Addr) (a : Int) (w : World) : Calls Tryz.prog 19 #[.pointer q, .int .i64 a] w fun e w' => e = .returned (.func (.func 33) #[] #[.pointer (some ⟨w.heap.size, 0, none⟩), .pointer (some ⟨w.heap.size + 1, 0, none⟩)]) ∧
    (w.alloc (.cells #[.pointer q] 32)).alloc (.cells #[.int .i64 a] 3) = w' := by
  go_enter Tryz.func19, Tryz.ntmps19
  go_wp2
  go_ret
  exact ⟨rfl, rfl⟩

/-- What Edges turns as it opens; what it keeps to itself. -/
def OpE (H : Nat) (d : Ids) (s : St) (mm : Nat) (X Y : World) (G : Nat → Prop) : Prop := ∃ d', Tn X H d Y d' s (mm + 40) ∧ ∀ k, G k → X.heap.size ≤ k ∧ ¬ Mine H d' k

set_option maxRecDepth 100000 in
set_option maxHeartbeats 4000000 in
theorem edges1_open {H : Nat} {d : Ids} {s : St} {mm : Nat} (m Bh Ba : Nat) (a : Int) (hm : mm < 800000) (hw : Wf s) (w : World) :
    SeqOpen Fence.wide m Tryz.prog 33 #[.pointer (some ⟨Bh, 0, none⟩), .pointer (some ⟨Ba, 0, none⟩)] (eA (fs s a)).length (encE (fs s a)) (OpE H d s mm)
      (fun W => Is W H d s mm ∧ Tabs W ∧ W.cell? ⟨Bh, 0, none⟩ = some (.pointer (some ⟨H, 0, none⟩)) ∧ W.cell? ⟨Ba, 0, none⟩ = some (.int .i64 a)) w := by
  refine SeqOpen.any (n := 4) ?_
  rintro l J Jx W hW ⟨hI, hT, hBh, hBa⟩ hJ hJx hY h0
  have HF := Lib.hid (flds_any a W hI hT hm)
  have hlen : (fs s a).length ≤ 15 := by
    cases hb : bnI s a with
    | false => rw [fs_no hb]; simp
    | true => rw [fs_len hb]; exact (obj_fN hw hb).1
  have H0 := Lib.hid h0
  have HY := Lib.hid hY
  have HJ := Lib.hid hJ
  clear hI hT hJ hJx h0 hY hW
  refine callsIn_of_wp Tryz.func33 rfl trivial ?_ rfl
  simp only [Tryz.ntmps33, List.size_toArray, List.length_cons, List.length_nil, Nat.reduceAdd, Nat.reduceSub, Array.replicate_succ, Array.replicate_zero, List.push_toArray, List.append_toArray, List.nil_append, List.cons_append]
  generalize fs s a = fl at *
  gi_wp2_with (refine ⟨trivial, ?_⟩; gi_at_call 34; refine (callsIn_wide.2 HF.out).mono ?_; rintro e W1 ⟨p, cap, d', rfl, hrd, hap, hTn⟩)
  obtain ⟨O0, hj0, hO0⟩ := H0.out W1 (rowB p) ⟨d', hTn, fun k hk => hap k hk⟩
  have hsz1 : W.heap.size ≤ W1.heap.size := hTn.chg.size
  have HST := Lib.hid (show J O0 0 W1 ∧ (∀ k, O0 k → k < W1.heap.size) ∧ (∀ g, rowB p g → W.heap.size ≤ g ∧ ¬ O0 g) from ⟨hj0, fun k hk => (hO0 k hk).1, fun g hg => ⟨(hap g hg).1, fun h => (hO0 g h).2 hg⟩⟩)
  have HRD := Lib.hid hrd
  clear hj0 hO0 hrd hap hTn HF H0 hBh hBa
  gi_loopw [10] (fun x wr => ∃ (j : Nat) (O : Nat → Prop), j ≤ fl.length ∧ x = .int .i64 (j : Int) ∧ W.heap.size ≤ wr.heap.size ∧ Rd wr p fl ∧ J O (eP fl j).length wr ∧ (∀ k, O k → k < wr.heap.size) ∧ ∀ g, rowB p g → W.heap.size ≤ g ∧ ¬ O g)
    (fun x _ => fl.length - (intOf x).toNat)
  case atStart => exact ⟨0, O0, Nat.zero_le _, rfl, hsz1, HRD.out, by rw [eP_zero]; exact HST.out.1, HST.out.2⟩
  case round =>
    obtain ⟨j, O, hj, rfl, hsz, hrd, hJm, hOm, hap⟩ := hrel
    by_cases hlt : j < fl.length
    · have j0 : (0 : Int) ≤ (j : Int) := Int.natCast_nonneg _
      have j1 : (j : Int) < (fl.length : Int) := by omega
      obtain ⟨g, off, hp, hc⟩ := hrd.at hlt
      have hgl : ∀ g, rowB p g → g < wr.heap.size := fun g hg => hrd.lt hg (by omega)
      by_cases hv : fl.getD j 0 = 0
      · have HN := Lib.hid (eP_no fl hv)
        rw [hv] at hc
        have HRD2 := Lib.hid (show Rd wr p fl ∧ J O (eP fl j).length wr ∧ (∀ k, O k → k < wr.heap.size) ∧ ∀ g, rowB p g → W.heap.size ≤ g ∧ ¬ O g from ⟨hrd, hJm, hOm, hap⟩)
        subst hp
        clear hrd hJm hOm hap hv hgl HST HRD
        have hz0 : ((0 : Int) != 0) = false := rfl
        gi_wp2
        refine ⟨fun _ h => (by cases h), ?_⟩
        gi_wp2
        go_roundw
        case rel => exact ⟨j + 1, O, by omega, by go_num, hsz, HRD2.out.1, by rw [HN.out]; exact HRD2.out.2.1, HRD2.out.2.2⟩
        case measure => simp [intOf]; omega
      · have hv2 : (fl.getD j 0 == 0) = false := by simpa using hv
        have hv3 : (fl.getD j 0 != 0) = true := by simpa using hv
        obtain ⟨e1, e2, e3⟩ := eP_at fl hlt hv
        obtain ⟨fn, tmps, asg, bdy, hy, hR⟩ := HY.out O _ wr e1 hJm hOm hsz
        unfold encE eK eV at hy
        rw [e2] at hy
        simp only at hy
        have HF2 := Lib.hid (fun (O' : Nat → Prop) (W3 : World) (ht : Turn W.heap.size O O' wr W3) => (⟨Nat.le_trans hsz ht.size, hrd.kept (fun g hg _ => ht.keep g (hap g hg).1 (hgl g hg) (hap g hg).2), ht.lt, fun g hg => ⟨(hap g hg).1, fun h => (ht.grow g h).elim (hap g hg).2 (fun h2 => by have := hgl g hg; omega)⟩⟩ : W.heap.size ≤ W3.heap.size ∧ Rd W3 p fl ∧ (∀ k, O' k → k < W3.heap.size) ∧ ∀ g, rowB p g → W.heap.size ≤ g ∧ ¬ O' g))
        have HE := Lib.hid (And.intro e1 e3)
        subst hp
        clear hrd hJm hOm hap hv hgl e1 e2 e3 HST HRD
        generalize fl.getD j 0 = v at *
        gi_wp2
        refine hR.mono ?_
        rintro e W3 ⟨O', ht3, (⟨rfl, hJ3⟩ | ⟨rfl, hJx3⟩)⟩
        · obtain ⟨z1, z2⟩ := HF2.out O' W3 ht3
          gi_wp2
          go_roundw
          case rel => exact ⟨j + 1, O', by omega, by go_num, z1, z2.1, by rw [HE.out.2]; exact hJ3, z2.2⟩
          case measure => simp [intOf]; omega
        · obtain ⟨z1, z2, z3, z4⟩ := HF2.out O' W3 ht3
          gi_wp2
          refine bodyPost_ret (results_none rfl _ _ _) rfl ?_
          exact ⟨⟨_, rfl⟩, O', z3, z1, .inr ⟨_, HE.out.1, hJx3⟩⟩
    · have j1 : ¬ (j : Int) < (fl.length : Int) := by omega
      obtain rfl : j = fl.length := by omega
      gi_wp2
      go_end0
      exact ⟨⟨_, rfl⟩, O, hOm, hsz, .inl hJm⟩
end Go.Proofs.YtpcgmkchflmcmaaGreatDoor.Tr
