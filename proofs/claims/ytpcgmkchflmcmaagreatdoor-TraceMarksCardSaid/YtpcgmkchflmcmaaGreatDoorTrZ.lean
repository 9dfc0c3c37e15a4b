/-
  The law TraceRooms answers true.
-/
import Derived.Test.YtpcgmkchflmcmaaGreatDoorTrQ4
import Derived.Test.YtpcgmkchflmcmaaGreatDoorTrP
namespace Go.Proofs.YtpcgmkchflmcmaaGreatDoor.Tr
open Go.RowKit Go.Shelf
open Class (below_drewN)
open Blk (Cfg allP kAt little little_any little_right)
open Bits (SetIs TzTab)
open Hp (Ids St Wf Is To Mine bn bnI bnI_nat objL not_mine pkA_len objects_any NewRow coV coE color_any')
open Rf (wpList_append_one)
open Sw (ThingsP thAt)
open Go.Proofs.YtpcgmkchflmcmaaGreatDoor.Row (Chg Rd Rd0 rowB rowB_none cell_of_block frozen_of_block other same cellsZ cellsZ_length cellsZ_at owns_block owns_chg owns_lt owns_base owns_cell owns_slice)
open Go.Proofs.YtpcgmkchflmcmaaGreatDoor.Addr (Tabs)

section
variable {s : St} {os os1 os2 : List Nat} {R : List Int} {u a : Int}
theorem Rch.wo1 (h : Rch (wo s os) R u) : Rch s R u := by
  induction h with
  | root h1 h2 => exact .root h1 h2
  | step h1 h2 h3 ih => exact .step ih h2 h3
theorem Rch.wo2 (h : Rch s R u) : Rch (wo s os) R u := by
  induction h with
  | root h1 h2 => exact .root h1 h2
  | step h1 h2 h3 ih => exact .step ih h2 h3
open Classical in
theorem rcL_wo (s : St) (os : List Nat) (R : List Int) : rcL (wo s os) R = rcL s R := by
  unfold rcL
  show (objL s).filter _ = _
  apply List.filter_congr
  intro x _
  have e : Rch (wo s os) R x ↔ Rch s R x := ⟨Rch.wo1, Rch.wo2⟩
  simp only [e]
theorem coE_wo (h : bnI s a = true) : coE (wo s os) a = 0 := by
  unfold coE
  rw [wo_bnI, if_pos h]
theorem coV_wo (h : bnI s a = true) : coV (wo s os) a = if hasI os a = true then 1 else 0 := by
  unfold coV
  rw [wo_bnI, if_pos h]
  rfl
theorem coV_alike (h : bnI s a = true) (h1 : hasI os1 a = true ↔ Rch s R a) (h2 : hasI os2 a = true ↔ Rch s R a) : coV (wo s os1) a = coV (wo s os2) a := by
  rw [coV_wo h, coV_wo h]
  have e : (hasI os1 a = true) = (hasI os2 a = true) := propext (h1.trans h2.symm)
  simp only [e]
/-- The colors of all. -/
def colL (s : St) (os : List Nat) : List Int := (objL s).map (coV (wo s os))
theorem colL_len (s : St) (os : List Nat) : (colL s os).length = (objL s).length := List.length_map ..
theorem colL_at (s : St) (os : List Nat) {i : Nat} (h : i < (objL s).length) : (colL s os).getD i 0 = coV (wo s os) ((objL s).getD i 0) := by
  unfold colL
  rw [List.getD_eq_getElem?_getD, List.getD_eq_getElem?_getD, List.getElem?_map, List.getElem?_eq_getElem h]
  rfl
theorem objL_at {i : Nat} (hw : Wf s) (hk : ∀ j, kAt s.ks j < 4) (h : i < (objL s).length) : bnI s ((objL s).getD i 0) = true :=
  (objL_mem hw hk).1 (by rw [List.getD_eq_getElem?_getD, List.getElem?_eq_getElem h]; exact List.getElem_mem h)
/-- The first ones of them. -/
def colT (s : St) (os : List Nat) (i : Nat) : List Int := (colL s os).take i
theorem colT_len (s : St) (os : List Nat) {i : Nat} (h : i ≤ (objL s).length) : (colT s os i).length = i := by
  have := colL_len s os
  unfold colT
  rw [List.length_take]
  omega
theorem colT_snoc (s : St) (os : List Nat) {i : Nat} (h : i < (objL s).length) : colT s os i ++ [(colL s os).getD i 0] = colT s os (i + 1) := take_snoc _ (by rw [colL_len]; exact h)
theorem colT_all (s : St) (os : List Nat) : colT s os (objL s).length = colL s os := List.take_of_length_le (by rw [colL_len]; exact Nat.le_refl _)
end
/-- What one mark leaves, of a heap that is there. -/
theorem MarkT.open {w w' : World} {H : Nat} {d : Ids} {s : St} {os : List Nat} {m room : Nat} {R : List Int} {e : Ending} (h : MarkT w H d (wo s os) m R true room e w') :
    ∃ (ag : Nat) (os' : List Nat) (d' : Ids), e = .returned (.tuple #[.int .i64 ((rcL s R).length : Int), .int .i64 (ag : Int), .int .i64 0]) ∧ Tn w H d w' d' (wo s os') (m + 80 * (objL s).length) ∧ ∀ u, bnI s u = true → (hasI os' u = true ↔ Rch s R u) := by
  obtain ⟨q, ag, os', d', rfl, h1, h2, rfl, _, _⟩ := h
  refine ⟨ag, os', d', by rw [rcL_wo], h1, fun u hu => ?_⟩
  have h3 := h2 u hu
  simp only [beq_true] at h3
  exact h3.trans ⟨Rch.wo1, Rch.wo2⟩
theorem wo_self (s : St) : wo s s.os = s := rfl
theorem RootsP.mono {S S' : Nat} {W : World} {p : Option Addr} {R : List Int} (h : RootsP S W p R) (hS : S ≤ S') : RootsP S' W p R := fun j hj => by
  obtain ⟨b, off, e, hb, hc⟩ := h j hj
  exact ⟨b, off, e, by omega, hc⟩

set_option maxRecDepth 100000 in
set_option maxHeartbeats 4000000 in
theorem rooms_walk (c : Cfg) (pa : Option Addr) (ca : Nat) (l : List (Nat × Nat × Bool)) (pf : Option Addr) (cf : Nat) (fl : List Nat) (pr : Option Addr) (cr : Nat) (R : List Int) (x0 x1 : Nat) (w : World) (ht : Tabs w) (hz : TzTab w) (hvb : vB ≤ w.heap.size)
    (hl : ThingsP w.heap.size w pa l) (hla : l.length ≤ maxLen) (hf : WordsP w.heap.size w pf fl) (hfl : fl.length ≤ maxLen) (hr : RootsP w.heap.size w pr R) (hrl : R.length ≤ maxLen) (hx0 : x0 < 256) (hx1 : x1 < 256) :
    Calls Tryz.prog 7 #[.agg #[.int .i64 c.b, .int .i64 c.wd, .int .i64 c.m, .int .i64 c.r, .int .i64 c.ce, .int .i64 c.lg, .int .i64 c.st, .slice pa l.length ca, .slice pf fl.length cf], .slice pr R.length cr, .agg #[.int .u8 x0, .int .u8 x1]] w fun e w' => e = .returned (.bool true) ∧ Below w.heap.size w w' := by
  obtain ⟨wb, hwb⟩ : ∃ wb, wb = (w.alloc (.cells #[.int .i64 c.b, .int .i64 c.wd, .int .i64 c.m, .int .i64 c.r, .int .i64 c.ce, .int .i64 c.lg, .int .i64 c.st, .slice pa l.length ca, .slice pf fl.length cf] 27)).alloc (.cells #[.int .u8 x0, .int .u8 x1] 56) := ⟨_, rfl⟩
  have hb0 : Below w.heap.size w wb := by rw [hwb]; exact ((Below.refl _ _).alloc (Nat.le_refl _) _).alloc (by simp) _
  have hsz : wb.heap.size = w.heap.size + 2 := by rw [hwb]; simp
  have hgb : Gb w wb c pa ca l.length pf cf fl.length := by rw [hwb]; exact (Gb.start w c pa ca l.length pf cf fl.length).later ((Below.refl _ _).alloc (Nat.le_refl _) _)
  have HT := Lib.hid (ht.later hb0)
  have HZ := Lib.hid (hz.below hb0 (by unfold vB at hvb; omega))
  have HTH := Lib.hid (hl.below hb0)
  have HF := Lib.hid (hf.below hb0)
  have HR := Lib.hid ((hr.below hb0).mono (show w.heap.size ≤ wb.heap.size by omega))
  have HBX := Lib.hid (show ∀ W, Below wb.heap.size wb W → W.cell? ⟨w.heap.size + 1, 0, none⟩ = some (.int .u8 x0) ∧ W.cell? ⟨w.heap.size + 1, 1, none⟩ = some (.int .u8 x1) from fun W hb => by
    have h1 : wb.cell? ⟨w.heap.size + 1, 0, none⟩ = some (.int .u8 x0) := by rw [hwb, World.cell?_alloc_at _ _ _ _ (by simp)]; rfl
    have h2 : wb.cell? ⟨w.heap.size + 1, 1, none⟩ = some (.int .u8 x1) := by rw [hwb, World.cell?_alloc_at _ _ _ _ (by simp)]; rfl
    exact ⟨(hb.cell (p := ⟨w.heap.size + 1, 0, none⟩) (by show w.heap.size + 1 < _; omega)).trans h1, (hb.cell (p := ⟨w.heap.size + 1, 1, none⟩) (by show w.heap.size + 1 < _; omega)).trans h2⟩)
  have HGB := Lib.hid hgb
  have HB0 := Lib.hid hb0
  have hvb' : vB ≤ wb.heap.size := by omega
  obtain ⟨nc, hnc, hnc3⟩ := Sw.little_ce' c
  obtain ⟨n, hn, hn2⟩ := Sw.little_n' c
  have HNC := Lib.hid hnc
  have HN := Lib.hid hn
  have HAW := Lib.hid (fun (W : World) (hb : Below wb.heap.size wb W) => awake_any W (HT.out.later hb) (HZ.out.below hb (by unfold vB at hvb'; omega)) (Nat.le_trans hvb' hb.size))
  have hxa : (0 : Int) ≤ (x0 : Int) ∧ (x0 : Int) ≤ 255 := by omega
  have hxb : (0 : Int) ≤ (x1 : Int) ∧ (x1 : Int) ≤ 255 := by omega
  obtain ⟨a0, a1⟩ := hxa
  obtain ⟨a2, a3⟩ := hxb
  have HLE := Lib.hid (show w.heap.size ≤ wb.heap.size by omega)
  have hfin : ∀ W, Below wb.heap.size wb W → Below w.heap.size w W := fun W hb => HB0.out.trans (hb.mono HLE.out)
  have HFIN := Lib.hid hfin
  clear ht hz hl hf hr hnc hn hb0 hgb hfin hsz
  go_enter Tryz.func7, Tryz.ntmps7
  go_wp2_with fail
  rw [← hwb]
  refine (great_any c pa ca l.length pf cf fl.length pr cr R.length _).mono ?_
  rintro e w1 ⟨rfl, hb1⟩
  clear hwb
  have HB1 := Lib.hid hb1
  have HG1 := Lib.hid (HGB.out.later hb1)
  clear hb1 HGB
  cases hgt : gtB l.length fl.length R.length with
  | true =>
    clear hgt
    go_wp2_with fail
    refine (HAW.out _ HB1.out).mono ?_
    rintro e w2 ⟨rfl, hb2⟩
    have HB2 := Lib.hid (HB1.out.trans (hb2.mono HB1.out.size))
    clear hb2
    go_wp2_with fail
    go_ret
    exact ⟨rfl, HFIN.out _ HB2.out⟩
  | false =>
    obtain ⟨hl40, hf200, hr40⟩ := gtB_false hgt
    clear hgt
    go_wp2_with fail
    refine (HAW.out _ HB1.out).mono ?_
    rintro e w2 ⟨rfl, hb2⟩
    have HB2 := Lib.hid (HB1.out.trans (hb2.mono HB1.out.size))
    obtain ⟨k0, k1, k2, k3, k4, k5, k6, k7, k8, hsz⟩ := HG1.out.later hb2
    clear hb2 HG1
    go_wp2_with fail
    clear k0 k1 k2 k3 k4 k5 k6 k7 k8 hsz
    refine (mk_any w.heap.size c n nc pa ca l pf cf fl w2 (HT.out.later HB2.out) HN.out HNC.out (Nat.le_trans HLE.out HB2.out.size) (HTH.out.below (HB2.out.mono HLE.out)) hla (HF.out.below (HB2.out.mono HLE.out)) hfl).mono ?_
    rintro e w3 ⟨H, d, m, rfl, hg⟩
    have HL3 := Lib.hid (hg.from HB2.out)
    have hmm := hg.hm
    have hall := hg.all
    clear hg
    generalize sM (little c) n nc l fl = s at *
    have HWF := Lib.hid HL3.out.is.wf
    have HK4 := Lib.hid HL3.out.is.tb.kLt
    obtain ⟨cx0, cx1⟩ := HBX.out w3 HL3.out.bel
    have HM1 := Lib.hid (mark_any (room := x0 + 1) true cr (HR.out.ask HL3.out HT.out HZ.out hvb' (by omega) hrl) (by omega) (by omega) (by omega))
    rw [show ((x0 + 1 : Nat) : Int) = 1 + (x0 : Int) by omega, show clr true = 1 from rfl] at HM1
    go_wp2_with fail
    refine HM1.out.mono ?_
    intro e w4 hmt
    obtain ⟨ag, os1, d4, rfl, hT, hos1⟩ := MarkT.open (os := s.os) hmt
    have HL4 := Lib.hid (HL3.out.tn hT)
    have HO1 := Lib.hid hos1
    clear hmt hT hos1 HM1 HL3 cx0 cx1
    go_wp2_with fail
    refine (objects_any w4 HL4.out.is (HL4.out.tabs HT.out)).mono ?_
    rintro e w5 ⟨p, cl, rfl, ho, hb5⟩
    have ho : w5.ownsRow w4.heap.size 3 1 (.slice p (objL s).length cl) (objL s).length (cellsZ (objL s)) := ho
    have HL5 := Lib.hid (HL4.out.later hb5)
    have HK5 := Lib.hid (show Kr w5 H d4 p (objL s) from ⟨Rd.of_owns ho, fun g hg _ e => by have := HL4.out.is.lt e; have := (owns_lt ho hg).1; omega⟩)
    rw [show (objL (wo s os1)).length = (objL s).length from rfl]
    clear ho hb5 HL4
    have hcl := colL_len s os1
    have HNM := Lib.hid (show ∀ k, Mine H d4 k → k < w5.heap.size from fun k hk => HL5.out.is.lt hk)
    go_wp2
    go_loopw [11, 13] (fun ov x wr => ∃ (i : Nat) (pl : Option Addr) (cf : Nat), i ≤ (objL s).length ∧ x = .int .i64 (i : Int) ∧ ov = .slice pl (colT s os1 i).length cf ∧ wr.ownsRow w5.heap.size 3 1 (.slice pl (colT s os1 i).length cf) (colT s os1 i).length (cellsZ (colT s os1 i)) ∧ Below w5.heap.size w5 wr) (fun _ x _ => (objL s).length - (intOf x).toNat)
    case atStart => exact ⟨0, none, 0, Nat.zero_le _, rfl, rfl, ⟨by simp [cellsZ], .inl ⟨rfl, rfl⟩⟩, Below.refl _ _⟩
    case round =>
      obtain ⟨i, pl, cf', hi, rfl, rfl, ho, hb⟩ := hrel
      have HO := Lib.hid ho
      have HB := Lib.hid hb
      clear ho hb
      by_cases hlt : i < (objL s).length
      · have i0 : (0 : Int) ≤ (i : Int) := Int.natCast_nonneg _
        have i1 : (i : Int) < ((objL s).length : Int) := by omega
        obtain ⟨g, off, hp, hc⟩ := (HK5.out.later HB.out).rd.at hlt
        have HC := Lib.hid (color_any' ((objL s).getD i 0) wr (HL5.out.is.later HB.out))
        rw [coE_wo (objL_at HWF.out HK4.out hlt), ← colL_at s os1 hlt] at HC
        have hti : (colT s os1 i).length = i := colT_len s os1 hi
        have HTI := Lib.hid hti
        have HSN := Lib.hid (colT_snoc s os1 hlt)
        have hl1 : (colT s os1 i).length + 1 = (colT s os1 (i + 1)).length := by rw [hti, colT_len s os1 (by omega)]
        have HAP := Lib.hid (show ∀ (w6 : World), Below wr.heap.size wr w6 → w6.ownsRow w5.heap.size 3 1 (.slice pl (colT s os1 i).length cf') (colT s os1 i).length (cellsZ (colT s os1 i)) ∧ ∀ p' c' w7, w7.ownsRow w5.heap.size 3 1 (.slice p' (colT s os1 i ++ [(colL s os1).getD i 0]).length c') (colT s os1 i ++ [(colL s os1).getD i 0]).length (cellsZ (colT s os1 i ++ [(colL s os1).getD i 0])) → Chg (rowB pl) w6 w7 →
            Hid (w7.ownsRow w5.heap.size 3 1 (.slice p' (colT s os1 (i + 1)).length c') (colT s os1 (i + 1)).length (cellsZ (colT s os1 (i + 1))) ∧ Below w5.heap.size w5 w7) ∧ (colT s os1 i).length + 1 = (colT s os1 (i + 1)).length from fun w6 hb6 => ⟨Hp.owns_below HO.out hb6 (fun _ hg => (owns_lt HO.out hg).2), fun p' c' w7 ho7 hC => ⟨Lib.hid ⟨by rw [HSN.out] at ho7; exact ho7, (HB.out.trans (hb6.mono HB.out.size)).trans (hC.below (fun k hk => (owns_lt HO.out hk).1) (Nat.le_trans HB.out.size hb6.size))⟩, hl1⟩⟩)
        subst hp
        clear hl1 hti HSN
        generalize (colL s os1).getD i 0 = y at *
        generalize (objL s).getD i 0 = v at *
        go_wp2_with (first
          | (go_at_call 23; refine HC.out.mono ?_; rintro e w6 ⟨rfl, hb6⟩; have HOB := Lib.hid (HAP.out w6 hb6); have hs6 : w5.heap.size ≤ w6.heap.size := Nat.le_trans HB.out.size hb6.size; clear hb6)
          | (at_builtin; refine wpList_append_one rfl _ _ rfl w6 w5.heap.size pl cf' (colT s os1 i) y rfl rfl HOB.out.1 rfl (by have := HTI.out; omega) hs6 ?_; intro p4 c4 w7 ho4 hC4 hR4; obtain ⟨HH4, hl4⟩ := HOB.out.2 p4 c4 w7 ho4 hC4; rw [hl4]; clear ho4 hC4 hR4 hl4))
        go_roundw
        case rel => exact ⟨i + 1, p4, c4, by omega, by go_num, rfl, HH4.out.1, HH4.out.2⟩
        case measure => simp [intOf]; omega
      · have i1 : ¬ (i : Int) < ((objL s).length : Int) := by omega
        obtain rfl : i = (objL s).length := by omega
        have hta : colT s os1 (objL s).length = colL s os1 := colT_all s os1
        rw [hta] at HO ⊢
        have HL6 := Lib.hid (HL5.out.later HB.out)
        have HK6 := Lib.hid (HK5.out.later HB.out)
        have HF6 := Lib.hid (show Kr wr H d4 pl (colL s os1) from ⟨Rd.of_owns HO.out, fun g hg _ e => by have := HNM.out g e; have := (owns_lt HO.out hg).1; omega⟩)
        obtain ⟨cx0, cx1⟩ := HBX.out wr HL6.out.bel
        have hol : (objL (wo s os1)).length = (objL s).length := rfl
        have HM2 := Lib.hid (mark_any (room := x1 + 1) true cr (HR.out.ask HL6.out HT.out HZ.out hvb' (by omega) hrl) (by omega) (by omega) (by omega))
        rw [show ((x1 + 1 : Nat) : Int) = 1 + (x1 : Int) by omega, show clr true = 1 from rfl] at HM2
        clear HL5 HK5 HNM HB HO hta hol
        go_wp2_with fail
        refine HM2.out.mono ?_
        intro e w7 hmt
        obtain ⟨ag2, os2, d7, rfl, hT, hos2⟩ := MarkT.open hmt
        have HL7 := Lib.hid (HL6.out.tn hT)
        have HK7 := Lib.hid (HK6.out.tn hT)
        have HF7 := Lib.hid (HF6.out.tn hT)
        have HO2 := Lib.hid (show ∀ i, i < (objL s).length → coV (wo s os2) ((objL s).getD i 0) = (colL s os1).getD i 0 from fun i hi => by
          have hb := objL_at HWF.out HK4.out hi
          rw [colL_at s os1 hi]
          exact coV_alike hb (hos2 _ hb) (HO1.out _ hb))
        have HL7' := Lib.hid (show Lv wb w7 H d7 (wo s os2) _ from HL7.out)
        clear hmt hT hos2 HM2 HL6 HK6 HF6 cx0 cx1 HL7
        have hnn : (((rcL s R).length : Int) == ((rcL s R).length : Int)) = true := by simp
        have hlf : ((colL s os1).length : Int) = ((objL s).length : Int) := by omega
        go_wp2
        go_loopw [19] (fun x wr => ∃ i : Nat, i ≤ (objL s).length ∧ x = .int .i64 (i : Int) ∧ Below w7.heap.size w7 wr) (fun x _ => (objL s).length - (intOf x).toNat)
        case atStart => exact ⟨0, Nat.zero_le _, rfl, Below.refl _ _⟩
        case round =>
          obtain ⟨i, hi, rfl, hb⟩ := hrel
          have HB := Lib.hid hb
          clear hb
          by_cases hlt : i < (objL s).length
          · have i0 : (0 : Int) ≤ (i : Int) := Int.natCast_nonneg _
            have i1 : (i : Int) < ((objL s).length : Int) := by omega
            have i2 : (i : Int) < ((colL s os1).length : Int) := by omega
            obtain ⟨g, off, hp, hc⟩ := (HK7.out.later HB.out).rd.at hlt
            obtain ⟨g2, off2, hp2, hc2⟩ := (HF7.out.later HB.out).rd.at (show i < (colL s os1).length by omega)
            have hg2 : g2 < wr.heap.size := World.block_lt_of_cell? wr _ hc2
            have HC := Lib.hid (color_any' ((objL s).getD i 0) wr (HL7'.out.is.later HB.out))
            rw [coE_wo (objL_at HWF.out HK4.out hlt), HO2.out i hlt] at HC
            subst hp hp2
            generalize (colL s os1).getD i 0 = y at *
            generalize (objL s).getD i 0 = v at *
            have hyy : (y == y) = true := by simp
            have HC2 := Lib.hid (show ∀ w8, Below wr.heap.size wr w8 → w8.cell? ⟨g2, off2 + i, none⟩ = some (.int .i64 y) from fun w8 hb8 => (hb8.cell (p := ⟨g2, off2 + i, none⟩) hg2).trans hc2)
            go_wp2_with (go_at_call 23; refine HC.out.mono ?_; rintro e w8 ⟨rfl, hb8⟩; have hc8 := HC2.out w8 hb8; have HB8 := Lib.hid (HB.out.trans (hb8.mono HB.out.size)); clear hb8)
            go_roundw
            case rel => exact ⟨i + 1, by omega, by go_num, HB8.out⟩
            case measure => simp [intOf]; omega
          · have i1 : ¬ (i : Int) < ((objL s).length : Int) := by omega
            have HE := Lib.hid (HFIN.out _ (HL7'.out.later HB.out).bel)
            clear HL7' HK7 HF7 HB
            go_wp2
            go_ret
            exact ⟨rfl, HE.out⟩
end Go.Proofs.YtpcgmkchflmcmaaGreatDoor.Tr
