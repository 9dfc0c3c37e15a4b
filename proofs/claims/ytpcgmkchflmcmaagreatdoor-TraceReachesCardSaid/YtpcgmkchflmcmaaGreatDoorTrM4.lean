/-
  The document's But: what isn't reached.
-/
import Derived.Test.YtpcgmkchflmcmaaGreatDoorTrM2
namespace Go.Proofs.YtpcgmkchflmcmaaGreatDoor.Tr
open Go.RowKit Go.Shelf
open Class (below_drewN)
open Blk (Cfg allP kAt)
open Hp (Ids St Wf Is Mine bn bnI objL not_mine NewRow pkA_len)
open Rf (wpList_append_one)
open Go.Proofs.YtpcgmkchflmcmaaGreatDoor.Row (Chg Rd Rd0 rowB rowB_none cell_of_block frozen_of_block other same cellsZ cellsZ_length cellsZ_snoc owns_block owns_chg owns_lt owns_base)

section
variable {s : St} {R : List Int} {i : Nat}
open Classical in
/-- What is told, of the first. -/
noncomputable def gbT (s : St) (R : List Int) (i : Nat) : List Int := (alT s i).filter fun a => !decide (Rch s R a)
theorem gbT_all (s : St) (R : List Int) : gbT s R (objL s).length = gbL s R := by unfold gbT gbL; rw [alT_all]
theorem gbT_yes (hi : i < (objL s).length) (h : ¬ Rch s R ((objL s).getD i 0)) : gbT s R i ++ [(objL s).getD i 0] = gbT s R (i + 1) := by
  unfold gbT
  rw [← alT_snoc hi, List.filter_append]
  generalize (objL s).getD i 0 = v at *
  simp [h]
theorem gbT_no (hi : i < (objL s).length) (h : Rch s R ((objL s).getD i 0)) : gbT s R i = gbT s R (i + 1) := by
  unfold gbT
  rw [← alT_snoc hi, List.filter_append]
  generalize (objL s).getD i 0 = v at *
  simp [h]
open Classical in
theorem gbT_len (s : St) (R : List Int) (hi : i ≤ (objL s).length) : (gbT s R i).length ≤ i := by
  unfold gbT
  have h1 := alT_len hi
  have := List.length_filter_le (fun a => !decide (Rch s R a)) (alT s i)
  omega
end
set_option maxRecDepth 100000 in
set_option maxHeartbeats 4000000 in
theorem refBut_any {s : St} {pA pT pr : Option Addr} {cA cT cr : Nat} {vs : List Value} {R : List Int} (w : World) (h : Gr w s pA pT vs) (hr : Rd0 w pr R) (hrb : ∀ g, rowB pr g → 0 < R.length → g < w.heap.size) (hw : Wf s) (hk : ∀ j, kAt s.ks j < 4) (hN : (objL s).length ≤ 1000) (hR : R.length ≤ 1000) (hws : s.ws.length ≤ 1048576) :
    Calls Tryz.prog 16 #[.agg #[.slice pA (objL s).length cA, .slice pT (objL s).length cT], .slice pr R.length cr] w (NewRow w (gbL s R)) := by
  obtain ⟨wb, hwb⟩ : ∃ wb, wb = w.alloc (.cells #[.slice pA (objL s).length cA, .slice pT (objL s).length cT] 36) := ⟨_, rfl⟩
  have hb0 : Below w.heap.size w wb := by rw [hwb]; exact (Below.refl _ _).alloc (Nat.le_refl _) _
  have hbz : wb.heap.size = w.heap.size + 1 := by rw [hwb]; simp
  have hc0 : wb.cell? ⟨w.heap.size, 0, none⟩ = some (.slice pA (objL s).length cA) := by rw [hwb, World.cell?_alloc_new]; rfl
  have hc1 : wb.cell? ⟨w.heap.size, 1, none⟩ = some (.slice pT (objL s).length cT) := by rw [hwb, World.cell?_alloc_new]; rfl
  have HRR := Lib.hid (refReach_any (cA := cA) (cT := cT) (cr := cr) wb (h.later hb0) (fun j hj => by
    obtain ⟨g, off, e, hc⟩ := hr j hj
    exact ⟨g, off, e, (hb0.cell (p := ⟨g, off + j, none⟩) (hrb g (by rw [e]; rfl) (by omega))).trans hc⟩) (fun g hg h0 => by have := hrb g hg h0; omega) hw hk hN hR hws)
  have HG := Lib.hid (fun (W : World) (hb : Below wb.heap.size wb W) => (h.later hb0).later hb)
  have HC := Lib.hid (show ∀ W, Below wb.heap.size wb W → W.cell? ⟨w.heap.size, 0, none⟩ = some (.slice pA (objL s).length cA) from fun W hb => (hb.cell (p := ⟨w.heap.size, 0, none⟩) (by show w.heap.size < _; omega)).trans hc0)
  have HB0 := Lib.hid hb0
  have HDC := Lib.hid (show ∀ i, i < (objL s).length → ((objL s).getD i 0 ∈ rcL s R ↔ Rch s R ((objL s).getD i 0)) from fun i _ => rcL_mem hw hk)
  have HLN := Lib.hid (fun i (hi : i ≤ (objL s).length) => gbT_len s R hi)
  have hrl := rcL_len s R
  have HWS := Lib.hid (show w.heap.size ≤ wb.heap.size by omega)
  clear h hr hrb hw hk hb0 hbz
  go_enter Tryz.func16, Tryz.ntmps16
  go_wp2_with fail
  rw [← hwb]
  clear hwb
  go_wp2_with fail
  refine HRR.out.mono ?_
  rintro e w2 ⟨pi, ci, rfl, ho, hb2⟩
  have HI := Lib.hid (show Rd w2 pi (rcL s R) from Rd.of_owns ho)
  have HB2 := Lib.hid hb2
  clear ho hb2 hc0 hc1 HRR
  go_wp2
  go_loopw [6, 7] (fun ov x wr => ∃ (i : Nat) (pl : Option Addr) (cl : Nat), i ≤ (objL s).length ∧ x = .int .i64 (i : Int) ∧ ov = .slice pl (gbT s R i).length cl ∧ wr.ownsRow w2.heap.size 3 1 (.slice pl (gbT s R i).length cl) (gbT s R i).length (cellsZ (gbT s R i)) ∧ Below w2.heap.size w2 wr) (fun _ x _ => (objL s).length - (intOf x).toNat)
  case atStart => exact ⟨0, none, 0, Nat.zero_le _, rfl, by simp [gbT, alT], ⟨by simp [cellsZ, gbT, alT], .inl ⟨by simp [gbT, alT], by simp [gbT, alT]⟩⟩, Below.refl _ _⟩
  case round =>
    obtain ⟨i, pl, cl, hi, rfl, rfl, ho, hb⟩ := hrel
    have HO := Lib.hid ho
    have HB := Lib.hid hb
    clear ho hb
    have hbw : Below wb.heap.size wb wr := HB2.out.trans (HB.out.mono HB2.out.size)
    have c0 := HC.out wr hbw
    by_cases hlt : i < (objL s).length
    · have i0 : (0 : Int) ≤ (i : Int) := Int.natCast_nonneg _
      have i1 : (i : Int) < ((objL s).length : Int) := by omega
      obtain ⟨g, off, hp, hc⟩ := (HG.out wr hbw).rA.at hlt
      have HIN := Lib.hid (in_any pi ci (rcL s R) ((objL s).getD i 0) wr (HI.out.later HB.out).rd0 (by omega))
      subst hp
      clear hbw
      by_cases hrc : Rch s R ((objL s).getD i 0)
      · rw [decide_eq_true ((HDC.out i hlt).2 hrc)] at HIN
        have HSN := Lib.hid (gbT_no hlt hrc)
        clear hrc
        rw [HSN.out] at HO ⊢
        generalize (objL s).getD i 0 = y at *
        go_wp2_with (go_at_call 18; refine HIN.out.mono ?_; rintro e w' ⟨rfl, rfl⟩)
        go_roundw
        case rel => exact ⟨i + 1, pl, cl, by omega, by go_num, rfl, HO.out, HB.out⟩
        case measure => simp [intOf]; omega
      · rw [decide_eq_false (fun e => hrc ((HDC.out i hlt).1 e))] at HIN
        have HSN := Lib.hid (gbT_yes hlt hrc)
        clear hrc
        generalize (objL s).getD i 0 = y at *
        have hl1 : (gbT s R i).length + 1 = (gbT s R (i + 1)).length := by rw [← HSN.out]; simp
        have HAP := Lib.hid (show ∀ p' c' w7, w7.ownsRow w2.heap.size 3 1 (.slice p' (gbT s R i ++ [y]).length c') (gbT s R i ++ [y]).length (cellsZ (gbT s R i ++ [y])) → Chg (rowB pl) wr w7 → Hid (w7.ownsRow w2.heap.size 3 1 (.slice p' (gbT s R (i + 1)).length c') (gbT s R (i + 1)).length (cellsZ (gbT s R (i + 1))) ∧ Below w2.heap.size w2 w7) ∧ (gbT s R i).length + 1 = (gbT s R (i + 1)).length from fun p' c' w7 ho7 hC => ⟨Lib.hid ⟨by rw [HSN.out] at ho7; exact ho7, HB.out.trans (hC.below (fun k hk => (owns_lt HO.out hk).1) HB.out.size)⟩, hl1⟩)
        go_wp2_with (first
          | (go_at_call 18; refine HIN.out.mono ?_; rintro e w' ⟨rfl, rfl⟩)
          | (at_builtin; refine wpList_append_one rfl _ _ rfl wr w2.heap.size pl cl (gbT s R i) y rfl rfl HO.out rfl (by have := HLN.out i (by omega); omega) HB.out.size ?_; intro p4 c4 w7 ho4 hC4 hR4; obtain ⟨HH4, hl4⟩ := HAP.out p4 c4 w7 ho4 hC4; rw [hl4]; clear ho4 hC4 hR4 hl4))
        go_roundw
        case rel => exact ⟨i + 1, p4, c4, by omega, by go_num, rfl, HH4.out⟩
        case measure => simp [intOf]; omega
    · have i1 : ¬ (i : Int) < ((objL s).length : Int) := by omega
      obtain rfl : i = (objL s).length := by omega
      have hall := gbT_all s R
      rw [hall] at HO ⊢
      have HF := Lib.hid (And.intro (owns_base (Nat.le_trans HWS.out HB2.out.size) HO.out) (HB0.out.trans (hbw.mono HWS.out)))
      clear hbw
      go_wp2
      go_ret
      exact ⟨pl, cl, rfl, HF.out⟩
end Go.Proofs.YtpcgmkchflmcmaaGreatDoor.Tr
