/-
  GraphOwn.
-/
import Derived.Test.YtadkmidipjlcjaaDoorGrX
import Derived.Deep.RegionHeld3
namespace Go.Proofs.YtadkmidipjlcjaaDoor.Gra
open Go.RowKit Go.Proofs.YtadkmidipjlcjaaDoor.Opr
open Go.Proofs.YtadkmidipjlcjaaDoor.Row (rowB rowB_none Chg other same Rd same_any)

set_option maxRecDepth 2000000 in
set_option maxHeartbeats 16000000 in
theorem own_walk (c : C7) (pd : Option Addr) (cd : Nat) (ld : List DQ) (w : World) (ht : FormTab w) (hl : LimTab w) (hd : DeedsAt w pd ld) (hlen : ld.length ≤ maxLen) :
    Calls Tryd.prog 6 #[(.agg #[.int .i64 c.b, .int .i64 c.wd, .int .i64 c.m, .int .i64 c.r, .int .i64 c.ce, .int .i64 c.lg, .int .i64 c.st]), .slice pd ld.length cd] w fun e w' => e = .returned (.bool true) ∧ Below w.heap.size w w' := by
  unfold maxLen at hlen
  have HT := Lib.hid ht
  have HL := Lib.hid hl
  have HD := Lib.hid hd
  have HLEN := Lib.hid hlen
  have HR := Lib.hid (little_right c)
  obtain ⟨M, r, nc, hM, hr, hnc, hM1, hM4, hr1, hr5, hnc3⟩ := little_nat c
  have HNR := Lib.hid (And.intro hM (And.intro hr (And.intro hnc (And.intro hM4 (And.intro hr5 hnc3)))))
  clear ht hl hd hlen hM hr hnc hM1 hM4 hr1 hr5 hnc3
  go_enter Tryd.func6, Tryd.ntmps6
  go_wp2_with fail
  refine (little_any c _).mono ?_
  rintro e w1 ⟨rfl, hb⟩
  have hblk : w1.heap[w.heap.size]? = some (.cells #[.int .i64 c.b, .int .i64 c.wd, .int .i64 c.m, .int .i64 c.r, .int .i64 c.ce, .int .i64 c.lg, .int .i64 c.st] 23) := by
    rw [hb.block w.heap.size (by simp)]
    exact heap_alloc_new w _
  have HW := Lib.hid (fun W2 hW => box7 (d := little c) (W2 := W2) hblk hW)
  have HB1 : Hid (Below w.heap.size w w1) := Lib.hid (((Below.refl _ w).alloc (Nat.le_refl _) _).trans (hb.mono (by simp)))
  obtain ⟨hc1, hf1⟩ := bcell hb
  have hz1 : w.heap.size < w1.heap.size := by have := hb.size; simp at this; omega
  clear hb hblk
  generalize hL : little c = d at *
  clear hL
  by_cases hbig : 80 < ld.length
  · have h1 : (80 : Int) < (ld.length : Int) := by omega
    go_wp2_with fail
    generalize hW : World.setCell _ _ _ = W2
    obtain ⟨hbox, hoth, hsz, hbw⟩ := HW.out W2 hW
    have hb2 : Below w.heap.size w W2 := HB1.out.trans (hbw _ (Nat.le_refl _))
    refine (awake_any _ (HT.out.later hb2) (HL.out.later hb2)).mono ?_
    rintro e w3 ⟨rfl, hb3⟩
    have HF := Lib.hid (hb2.trans (hb3.mono hb2.size))
    clear hW HW hc1 hf1 hz1 hb2 hbox hb3 hoth hsz hbw
    go_wp2
    go_ret
    exact ⟨rfl, HF.out⟩
  have h1 : (ld.length : Int) ≤ 80 := by omega
  have hd1 : decide ((80 : Int) < (ld.length : Int)) = false := by simpa using h1
  go_wp2_with fail
  generalize hW : World.setCell _ _ _ = W1
  obtain ⟨hbox, hoth, hsz, hbw⟩ := HW.out W1 hW
  have hb2 : Below w.heap.size w W1 := HB1.out.trans (hbw _ (Nat.le_refl _))
  clear hW HW hc1 hf1 hoth hbw HB1
  rw [← hsz] at hz1
  refine (awake_any _ (HT.out.later hb2) (HL.out.later hb2)).mono ?_
  rintro e W2 ⟨rfl, hb3⟩
  have HB2 := Lib.hid (hb2.trans (hb3.mono hb2.size))
  have HX2 := Lib.hid (hbox.later hb3)
  have hz2 : w.heap.size < W2.heap.size := Nat.lt_of_lt_of_le hz1 hb3.size
  clear hb2 hb3 hbox hz1 hsz
  obtain ⟨b, wd, m, rr, ce, lg, st⟩ := d
  obtain ⟨rfl, rfl, rfl, hM4, hr5, hnc3⟩ := HNR.out
  have c0 := HX2.out 0 _ rfl
  have c1 := HX2.out 1 _ rfl
  have c2 := HX2.out 2 _ rfl
  have c3 := HX2.out 3 _ rfl
  have c4 := HX2.out 4 _ rfl
  have c5 := HX2.out 5 _ rfl
  have c6 := HX2.out 6 _ rfl
  simp only at c0 c1 c2 c3 c4 c5 c6
  have HNEW := Lib.hid (new_any b wd lg st M r nc HR.out (by omega) (by omega) (by omega) W2 (HL.out.later HB2.out))
  have HBD := Lib.hid (And.intro hM4 (And.intro hr5 hnc3))
  clear hM4 hr5 hnc3 HNR
  go_wp2_with fail
  refine HNEW.out.mono ?_
  rintro e W3 ⟨G, rfl, hP⟩
  have hG := Gx.start (bx := [cv ⟨b, wd, M, r, nc, lg, st⟩]) ⟨rfl, rfl, rfl⟩ HB2.out (fun i l hl => by
    match i, hl with
    | 0, hl => cases hl; exact HX2.out) hz2 hP
  have HG := Lib.hid hG
  clear hP hG HX2 HNEW hz2 c0 c1 c2 c3 c4 c5 c6
  generalize hbx : [cv ⟨b, wd, M, r, nc, lg, st⟩] = bx at *
  have HBX := Lib.hid hbx
  clear hbx
  go_wp2_with fail
  go_loopw [7, 8] (fun n i wr => ∃ j : Nat, j ≤ ld.length ∧ i = .int .i64 j ∧ n = .int .i64 (sAt ⟨b, wd, M, r, nc, lg, st⟩ (s0 nc r M) ld j).nO ∧ Gx w wr bx ⟨b, wd, M, r, nc, lg, st⟩ G (sAt ⟨b, wd, M, r, nc, lg, st⟩ (s0 nc r M) ld j) M r nc) (fun _ i _ => ld.length - (intOf i).toNat)
  case atStart => exact ⟨0, Nat.zero_le _, rfl, by show Value.int .i64 0 = .int .i64 ((s0 nc r M).nO : Int); rw [s0_nO]; rfl, HG.out⟩
  case round =>
    clear HG
    obtain ⟨j, hj, rfl, rfl, hgx⟩ := hrel
    have HX := Lib.hid hgx
    clear hgx
    have j0 : (0 : Int) ≤ (j : Int) := by omega
    have HNO := Lib.hid (sAt_wf (b := b) (wd := wd) (lg := lg) (st := st) (M := M) (r := r) (nc := nc) ld j)
    have HS : Hid (gS ⟨b, wd, M, r, nc, lg, st⟩ (sAt ⟨b, wd, M, r, nc, lg, st⟩ (s0 nc r M) ld j) (dq ld j) = sAt ⟨b, wd, M, r, nc, lg, st⟩ (s0 nc r M) ld (j + 1)) := Lib.hid rfl
    generalize hs1 : sAt ⟨b, wd, M, r, nc, lg, st⟩ (s0 nc r M) ld (j + 1) = s1 at HS
    have HS1 := Lib.hid hs1
    clear hs1
    by_cases hlt : j < ld.length
    · have j1 : (j : Int) < (ld.length : Int) := by omega
      have hn80 : (sAt ⟨b, wd, M, r, nc, lg, st⟩ (s0 nc r M) ld j).nO ≤ 80 := by have := HNO.out.2; omega
      have HN80 := Lib.hid hn80
      have HWF := Lib.hid HNO.out.1
      generalize hs0 : sAt ⟨b, wd, M, r, nc, lg, st⟩ (s0 nc r M) ld j = s at *
      have hds := HD.out.later HX.out.bel
      obtain ⟨B, off, rfl, e0, e1, e2, e3, e4⟩ := hds j hlt
      have HCP := Lib.hid (fun V hV => Gx.copy HX.out (by have := HN80.out; omega) (by have := HBD.out.1; omega) (by have := HBD.out.2.1; omega) (by have := HBD.out.2.2; omega) V hV)
      have HREG := Lib.hid (fun (m k : Int) (h : m ≠ (dq ld j).1) => reg_stays (b := b) (wd := wd) (lg := lg) (st := st) HWF.out (dq ld j) (m := m) (k := k) h)
      have HNOF := Lib.hid (nO_of (b := b) (wd := wd) (lg := lg) (st := st) (M := M) (r := r) (nc := nc) (s := s) (dq ld j))
      have HAL := Lib.hid (alloc_of (b := b) (wd := wd) (lg := lg) (st := st) (M := M) (r := r) (nc := nc) (s := s) (q := dq ld j))
      have HTK := Lib.hid (take_of (b := b) (wd := wd) (lg := lg) (st := st) HWF.out (q := dq ld j))
      have HST := Lib.hid (store_of (b := b) (wd := wd) (lg := lg) (st := st) HWF.out (q := dq ld j))
      have HDD := Lib.hid (fun (w1 : World) (G2 : Nat) (h : Bt w w1 bx ⟨b, wd, M, r, nc, lg, st⟩ G s G2 s M r nc) V hV => Bt.do h (by have := HN80.out; omega) HT.out HL.out (dq ld j) V hV)
      rw [HS.out] at HREG HNOF HTK HST
      simp only [HS.out] at HDD
      have HDS : Hid (∀ V, Below w.heap.size w V → V.cell? ⟨B, off + j * 5, none⟩ = some (.int .i64 (dq ld j).1) ∧ V.cell? ⟨B, off + j * 5 + 1, none⟩ = some (.int .i64 (dq ld j).2.1) ∧
          V.cell? ⟨B, off + j * 5 + 2, none⟩ = some (.int .i64 (dq ld j).2.2.1) ∧ V.cell? ⟨B, off + j * 5 + 3, none⟩ = some (.int .i64 (dq ld j).2.2.2.1) ∧ V.cell? ⟨B, off + j * 5 + 4, none⟩ = some (.int .i64 (dq ld j).2.2.2.2)) := Lib.hid fun V hV => by
        obtain ⟨B', off', e, k0, k1, k2, k3, k4⟩ := (HD.out.later hV) j hlt
        cases e
        exact ⟨k0, k1, k2, k3, k4⟩
      generalize hv1 : gV ⟨b, wd, M, r, nc, lg, st⟩ s (dq ld j) = v1 at HAL HTK HDD
      generalize hv2 : gE ⟨b, wd, M, r, nc, lg, st⟩ s (dq ld j) = v2 at HNOF HAL HTK HST HDD
      clear hv1 hv2 HS hs0 hn80 hds HNO e0 e1 e2 e3 e4 HD
      generalize dq ld j = q at *
      obtain ⟨q0, qk, qa, qb, qc⟩ := q
      simp only at HREG HNOF HAL HTK HST HDD HDS
      generalize hsn : s.nO = n0 at *
      have n80 : (n0 : Int) ≤ 80 := by have := HN80.out; omega
      clear hsn
      go_wp2_with (go_at_call 24; fail)
      refine (HCP.out _ (Below.refl _ _)).mono ?_
      rintro e W5 ⟨G2, rfl, hbt⟩
      have HDO := Lib.hid (HDD.out W5 G2 hbt)
      obtain ⟨e0, e1, e2, e3, e4⟩ := HDS.out W5 hbt.fst.bel
      have HB50 := Lib.hid hbt.fst.bel
      have HB51 := Lib.hid hbt.fst.bel.drew
      have HR0 : Hid (Below W5.heap.size W5 W5) := Lib.hid (Below.refl _ _)
      have HR1 : Hid (Below W5.heap.size W5 W5.drew) := Lib.hid (Below.refl _ _).drew
      clear hbt HCP HDD HX
      go_wp2_with fail
      go_region_held3 (fun U => U.cell? ⟨B, off + j * 5, none⟩ = some (.int .i64 q0) ∧ U.cell? ⟨B, off + j * 5 + 1, none⟩ = some (.int .i64 qk) ∧ U.cell? ⟨B, off + j * 5 + 2, none⟩ = some (.int .i64 qa) ∧ U.cell? ⟨B, off + j * 5 + 3, none⟩ = some (.int .i64 qb) ∧ U.cell? ⟨B, off + j * 5 + 4, none⟩ = some (.int .i64 qc))
        (first | exact HDS.out _ HB50.out | exact HDS.out _ HB51.out | exact HDS.out _ HBT.out.fst.bel)
        ((go_at_call 12; refine (HDO.out _ (by first | exact HR0.out | exact HR1.out)).mono ?_; rintro e W6 ⟨rfl, hbt⟩; have HBT := Lib.hid hbt; clear hbt))
      rename_i hdrop
      clear hdrop e0 e1 e2 e3 e4 HDO
      have HREG1 := Lib.hid (fun V hV => Gx.reg HBT.out.fst V hV)
      have HREG2 := Lib.hid (fun V hV => Gx.reg HBT.out.snd V hV)
      have HCF : Hid (CellsAt W6 w.heap.size (cv ⟨b, wd, M, r, nc, lg, st⟩)) := Lib.hid (HBT.out.fst.box 0 (cv ⟨b, wd, M, r, nc, lg, st⟩) (by rw [← HBX.out]; rfl))
      have HBW := Lib.hid HBT.out.fst.bel
      go_wp2_with fail
      all_goals
        go_loopw [12] (fun i wr => ∃ a : Nat, a ≤ M ∧ i = .int .i64 a ∧ Below W6.heap.size W6 wr) (fun i _ => M - (intOf i).toNat)
        case atStart => exact ⟨0, Nat.zero_le _, rfl, Below.refl _ _⟩
        case round =>
          obtain ⟨a, ha, rfl, hb6⟩ := hrel
          have HB6 := Lib.hid hb6
          have c2 := (HCF.out.later hb6) 2 _ rfl
          have c3 := (HCF.out.later hb6) 3 _ rfl
          simp only at c2 c3
          clear hb6
          have a0 : (0 : Int) ≤ (a : Int) := by omega
          have a4 : (a : Int) ≤ 1000 := by have := HBD.out.1; omega
          by_cases hla : a < M
          · have a1 : (a : Int) < (M : Int) := by omega
            go_wp2_with fail
            go_loopw [13] (fun i wr => ∃ k : Nat, k ≤ r ∧ i = .int .i64 k ∧ Below W6.heap.size W6 wr) (fun i _ => r - (intOf i).toNat)
            case atStart => exact ⟨0, Nat.zero_le _, rfl, HB6.out⟩
            case round =>
              obtain ⟨k, hk, rfl, hb7⟩ := hrel
              have HB7 := Lib.hid hb7
              have c2 := (HCF.out.later hb7) 2 _ rfl
              have c3 := (HCF.out.later hb7) 3 _ rfl
              simp only at c2 c3
              obtain ⟨e0, _, _, _, _⟩ := HDS.out _ (HBW.out.trans (hb7.mono HBW.out.size))
              clear hb7
              have k0 : (0 : Int) ≤ (k : Int) := by omega
              by_cases hlk : k < r
              · have k1 : (k : Int) < (r : Int) := by omega
                have k4 : (k : Int) ≤ 1000 := by have := HBD.out.2.1; omega
                by_cases hq : (a : Int) = q0
                · have hqb : ((a : Int) != q0) = false := by simp [hq]
                  go_wp2_with fail
                  go_roundw
                  case rel => exact ⟨k + 1, by omega, by go_num, HB7.out⟩
                  case measure => simp [intOf]; omega
                · have hqb : ((a : Int) != q0) = true := by rw [bne_iff_ne]; exact hq
                  have HRA := Lib.hid (HREG1.out _ HB7.out (a : Int) (k : Int))
                  have HRB := Lib.hid (HREG2.out _ HB7.out (a : Int) (k : Int))
                  rw [HREG.out (a : Int) (k : Int) hq] at HRA
                  generalize rgI s a k = rv at HRA HRB
                  have hne : (rv != rv) = false := by simp
                  clear hq
                  go_wp2_with (first
                    | (go_at_call 20; (with_reducible refine Calls.mono HRA.out ?_); rintro e w9 ⟨rfl, hw9⟩; cases hw9)
                    | (go_at_call 20; (with_reducible refine Calls.mono HRB.out ?_); rintro e w9 ⟨rfl, hw9⟩; cases hw9))
                  go_roundw
                  case rel => exact ⟨k + 1, by omega, by go_num, HB7.out⟩
                  case measure => simp [intOf]; omega
              · obtain rfl : k = r := by omega
                go_wp2_with fail
                go_roundw
                case rel => exact ⟨a + 1, by omega, by go_num, HB7.out⟩
                case measure => simp [intOf]; omega
          · obtain rfl : M = a := by omega
            have hbt := HBT.out.later HB6.out
            have HX7 := Lib.hid hbt.fst
            have HBL := Lib.hid hbt.fst.bel
            have HXS := Lib.hid hbt.fst
            obtain ⟨e0, e1, e2, e3, e4⟩ := HDS.out _ hbt.fst.bel
            have hlB : B < wr.heap.size := lt_of_cell e0
            have HRG := Lib.hid (fun V hV => Gx.reg hbt.fst V hV)
            have HFD := Lib.hid (fun V hV => Gx.fields hbt.fst (by have h2 := HNOF.out; have h3 := HN80.out; rw [h2]; split <;> omega) V hV)
            have HFL := Lib.hid (fdI_len hbt.fst.wf)
            have HXA : Hid (∀ (o : Obj) (n : Nat) , Gx w ((wr.alloc o).drewN n) bx ⟨b, wd, M, r, nc, lg, st⟩ G s1 M r nc) := Lib.hid fun o n => hbt.fst.later (below_drewN ((Below.refl _ _).alloc (Nat.le_refl _) o) n)
            clear hla hbt HBT HREG1 HREG2 HCF HREG HB6 HDS HBW
            have HXW : Hid (∀ V, Below wr.heap.size wr V → Gx w V bx ⟨b, wd, M, r, nc, lg, st⟩ G s1 M r nc) := Lib.hid fun V hV => HXS.out.later hV
            have HV0 : Hid (∀ o, Below wr.heap.size wr (wr.alloc o)) := Lib.hid fun o => (Below.refl _ _).alloc (Nat.le_refl _) o
            have HV1 : Hid (∀ o, Below wr.heap.size wr (wr.alloc o).drew) := Lib.hid fun o => ((Below.refl _ _).alloc (Nat.le_refl _) o).drew
            have HV2 : Hid (∀ o n, Below wr.heap.size wr ((wr.alloc o).drewN n)) := Lib.hid fun o n => below_drewN ((Below.refl _ _).alloc (Nat.le_refl _) o) n
            by_cases he : v2 = 0
            · subst he
              by_cases k1 : qk = 1
              · subst k1
                obtain rfl : v1 = (n0 : Int) + 1 := HAL.out rfl rfl
                have hno : (s1.nO : Int) = (n0 : Int) + 1 := by rw [HNOF.out, if_pos ⟨rfl, rfl⟩]; omega
                have HNM := Lib.hid hno
                clear HAL HTK HST HNOF hno
                have hne : (((n0 : Int) + 1) != ((n0 : Int) + 1)) = false := by simp
                go_wp2_with fail
                go_quiet (fail)
                go_wp2_with fail
                exact ⟨⟨j + 1, by omega, by go_num, by rw [HS1.out, HNM.out], by rw [HS1.out]; exact HXA.out _ _⟩, by simp [intOf]; omega⟩
              · have hno : (s1.nO : Int) = (n0 : Int) := by rw [HNOF.out, if_neg (fun e => k1 e.2)]
                have HNM := Lib.hid hno
                have b1 : (qk == 1) = false := by rw [beq_eq_false_iff_ne]; exact k1
                clear HAL HNOF hno
                by_cases k3 : qk = 3
                · subst k3
                  obtain ⟨hb0, hbl, hbv⟩ := HST.out rfl rfl
                  obtain ⟨x, rfl⟩ : ∃ x : Nat, qb = x := ⟨qb.toNat, by omega⟩
                  have HRA := Lib.hid (fun V hV => HRG.out V hV q0 qa)
                  have HRB := Lib.hid (fun V hV => HRG.out V hV q0 qc)
                  have HFA := Lib.hid (fun V hV => HFD.out V hV (rgI s1 q0 qa))
                  have HLA := Lib.hid (HFL.out (rgI s1 q0 qa))
                  generalize rgI s1 q0 qa = id at *
                  generalize rgI s1 q0 qc = rv at *
                  generalize fdI s1 id = fl at *
                  simp only [Int.toNat_natCast] at hbv
                  have HBV := Lib.hid hbv
                  have x0 : (0 : Int) ≤ (x : Int) := by omega
                  have HXL : Hid (x < fl.length) := Lib.hid (by omega)
                  clear HTK HST k1 b1 hb0 hbl hbv HRG HFD HFL
                  have hrr : (rv != rv) = false := by simp
                  have HK0 : Hid (∀ U, Below (wr.alloc (.cells #[.int .i64 3, .int .i64 qa, .int .i64 x, .int .i64 qc] 39)).heap.size (wr.alloc (.cells #[.int .i64 3, .int .i64 qa, .int .i64 x, .int .i64 qc] 39)) U → U.cell? ⟨B, off + j * 5, none⟩ = some (.int .i64 q0) ∧ U.cell? ⟨wr.heap.size, 1, none⟩ = some (.int .i64 qa)) := Lib.hid fun U hU => by
                    have h1 : wr.heap.size < (wr.alloc (.cells #[.int .i64 3, .int .i64 qa, .int .i64 x, .int .i64 qc] 39)).heap.size := by rw [World.size_alloc]; omega
                    exact ⟨(hU.cell (p := ⟨B, off + j * 5, none⟩) (show B < _ by omega)).trans (((HV0.out (.cells #[.int .i64 3, .int .i64 qa, .int .i64 x, .int .i64 qc] 39)).cell (p := ⟨B, off + j * 5, none⟩) hlB).trans e0), ((CellsAt.new _ _ _).later (Below.mono hU (Nat.le_refl _))) 1 _ rfl⟩
                  have HKR : Hid (Below (wr.alloc (.cells #[.int .i64 3, .int .i64 qa, .int .i64 x, .int .i64 qc] 39)).heap.size (wr.alloc (.cells #[.int .i64 3, .int .i64 qa, .int .i64 x, .int .i64 qc] 39)) (wr.alloc (.cells #[.int .i64 3, .int .i64 qa, .int .i64 x, .int .i64 qc] 39))) := Lib.hid (Below.refl _ _)
                  have HKR1 : Hid (Below (wr.alloc (.cells #[.int .i64 3, .int .i64 qa, .int .i64 x, .int .i64 qc] 39)).heap.size (wr.alloc (.cells #[.int .i64 3, .int .i64 qa, .int .i64 x, .int .i64 qc] 39)) (wr.alloc (.cells #[.int .i64 3, .int .i64 qa, .int .i64 x, .int .i64 qc] 39)).drew) := Lib.hid (Below.refl _ _).drew
                  have HKW : Hid (∀ U, Below (wr.alloc (.cells #[.int .i64 3, .int .i64 qa, .int .i64 x, .int .i64 qc] 39)).drew.heap.size (wr.alloc (.cells #[.int .i64 3, .int .i64 qa, .int .i64 x, .int .i64 qc] 39)).drew U → Below (wr.alloc (.cells #[.int .i64 3, .int .i64 qa, .int .i64 x, .int .i64 qc] 39)).heap.size (wr.alloc (.cells #[.int .i64 3, .int .i64 qa, .int .i64 x, .int .i64 qc] 39)) U) := Lib.hid fun U hU => HKR1.out.trans hU
                  go_wp2_with fail
                  go_region_held3 (fun U => U.cell? ⟨B, off + j * 5, none⟩ = some (.int .i64 q0) ∧ U.cell? ⟨wr.heap.size, 1, none⟩ = some (.int .i64 qa))
                    (first | exact HK0.out _ (HKR.out) | exact HK0.out _ (HKR1.out) | exact HK0.out _ (HKW.out _ HB8.out))
                    (first
                    | (go_at_call 20; refine (HRA.out _ (by first | exact HV1.out _ | exact HV0.out _ | exact HV2.out _ _)).mono ?_; rintro e w9 ⟨rfl, hw9⟩; cases hw9)
                    | (go_at_call 23; refine (HFA.out _ (by first | exact HV1.out _ | exact HV0.out _ | exact HV2.out _ _)).mono ?_; rintro e W8 ⟨p1, kk, rfl, ho8, hb8⟩; have HO8 := Lib.hid ho8; have HB8 := Lib.hid hb8; clear ho8 hb8))
                  rename_i hdrop
                  clear hdrop HK0 HKR HKR1 HKW
                  have HB9 := Lib.hid ((HV1.out (.cells #[.int .i64 3, .int .i64 qa, .int .i64 x, .int .i64 qc] 39)).trans (HB8.out.mono (HV1.out _).size))
                  have hoc : CellsAt (wr.alloc (.cells #[.int .i64 3, .int .i64 qa, .int .i64 x, .int .i64 qc] 39)).drew wr.heap.size [.int .i64 3, .int .i64 qa, .int .i64 x, .int .i64 qc] := CellsAt.new _ _ _
                  have hoc8 := hoc.later HB8.out
                  have t0 := hoc8 0 _ rfl
                  have t1 := hoc8 1 _ rfl
                  have t2 := hoc8 2 _ rfl
                  have t3 := hoc8 3 _ rfl
                  have d0 := (HB9.out.cell (p := ⟨B, off + j * 5, none⟩) hlB).trans e0
                  have hx := owns_form HO8.out (by have := HXL.out; omega)
                  obtain ⟨g, rfl⟩ := hx
                  have cf := Row.owns_cell HO8.out x _ (Row.cellsZ_at fl HXL.out)
                  rw [HBV.out] at cf
                  have HV8 : Hid (∀ n, Below wr.heap.size wr (W8.drewN n)) := Lib.hid fun n => below_drewN HB9.out n
                  have HX8 : Hid (∀ n, Gx w (W8.drewN n) bx ⟨b, wd, M, r, nc, lg, st⟩ G s1 M r nc) := Lib.hid fun n => HXW.out _ (HV8.out n)
                  have x1 : (x : Int) < (fl.length : Int) := by have := HXL.out; omega
                  have hge : decide ((fl.length : Int) ≤ (x : Int)) = false := decide_eq_false (by omega)
                  have hge2 : decide (fl.length ≤ x) = false := decide_eq_false (by omega)
                  clear hoc hoc8 HO8 HB8 HB9 HXL HBV HLA e0 e1 e2 e3 e4
                  generalize fl.length = fL at *
                  go_wp2_with fail
                  go_quiet ((go_at_call 20; exact Calls.quiet_of_same (HRB.out _ (by first | exact HV8.out _ | exact HV8.out 0))))
                  go_wp2_with fail
                  go_quiet (fail)
                  go_wp2_with fail
                  exact ⟨⟨j + 1, by omega, by go_num, by rw [HS1.out, HNM.out], by rw [HS1.out]; exact HX8.out _⟩, by simp [intOf]; omega⟩
                · have b3 : (qk == 3) = false := by rw [beq_eq_false_iff_ne]; exact k3
                  by_cases k2 : qk = 2 ∨ qk = 4 ∨ qk = 7
                  · have htk := HTK.out rfl k2
                    have HRA := Lib.hid (fun V hV => HRG.out V hV q0 qa)
                    rw [htk] at HRA
                    have hvv : (v1 != v1) = false := by simp
                    clear HTK HST k1 k3 htk HRG HFD HFL
                    rcases k2 with rfl | rfl | rfl
                    · go_wp2_with fail
                      go_quiet ((go_at_call 20; exact Calls.quiet_of_same (HRA.out _ (by first | exact HV2.out _ _ | exact HV1.out _ | exact HV0.out _))))
                      go_wp2_with fail
                      exact ⟨⟨j + 1, by omega, by go_num, by rw [HS1.out, HNM.out], by rw [HS1.out]; exact HXA.out _ _⟩, by simp [intOf]; omega⟩
                    · go_wp2_with fail
                      go_quiet ((go_at_call 20; exact Calls.quiet_of_same (HRA.out _ (by first | exact HV2.out _ _ | exact HV1.out _ | exact HV0.out _))))
                      go_wp2_with fail
                      exact ⟨⟨j + 1, by omega, by go_num, by rw [HS1.out, HNM.out], by rw [HS1.out]; exact HXA.out _ _⟩, by simp [intOf]; omega⟩
                    · go_wp2_with fail
                      go_quiet ((go_at_call 20; exact Calls.quiet_of_same (HRA.out _ (by first | exact HV2.out _ _ | exact HV1.out _ | exact HV0.out _))))
                      go_wp2_with fail
                      exact ⟨⟨j + 1, by omega, by go_num, by rw [HS1.out, HNM.out], by rw [HS1.out]; exact HXA.out _ _⟩, by simp [intOf]; omega⟩
                  · have b2 : (qk == 2) = false := by rw [beq_eq_false_iff_ne]; exact fun e => k2 (.inl e)
                    have b4 : (qk == 4) = false := by rw [beq_eq_false_iff_ne]; exact fun e => k2 (.inr (.inl e))
                    have b7 : (qk == 7) = false := by rw [beq_eq_false_iff_ne]; exact fun e => k2 (.inr (.inr e))
                    clear HTK HST k1 k3 k2 HRG HFD HFL
                    go_wp2_with fail
                    go_quiet (fail)
                    go_wp2_with fail
                    exact ⟨⟨j + 1, by omega, by go_num, by rw [HS1.out, HNM.out], by rw [HS1.out]; exact HXA.out _ _⟩, by simp [intOf]; omega⟩
            · have hno : (s1.nO : Int) = (n0 : Int) := by rw [HNOF.out, if_neg (fun e => he e.1)]
              have HNM := Lib.hid hno
              have be : (v2 == 0) = false := by rw [beq_eq_false_iff_ne]; exact he
              clear HAL HNOF HTK HST hno he HRG HFD HFL
              go_wp2_with fail
              go_quiet (fail)
              go_wp2_with fail
              exact ⟨⟨j + 1, by omega, by go_num, by rw [HS1.out, HNM.out], by rw [HS1.out]; exact HXA.out _ _⟩, by simp [intOf]; omega⟩
    · obtain rfl : j = ld.length := by omega
      have HCT := Lib.hid (fun V hV => Gx.count HX.out V hV)
      have HBL := Lib.hid HX.out.bel
      have n80 : ((sAt ⟨b, wd, M, r, nc, lg, st⟩ (s0 nc r M) ld ld.length).nO : Int) ≤ 80 := by have := HNO.out.2; omega
      generalize (sAt ⟨b, wd, M, r, nc, lg, st⟩ (s0 nc r M) ld ld.length).nO = n0 at *
      clear HX HNO HS
      go_wp2_with (go_at_call 14; refine (HCT.out _ (Below.refl _ _)).mono ?_; rintro e w9 ⟨rfl, hw9⟩; cases hw9)
      go_ret
      exact ⟨rfl, HBL.out⟩
end Go.Proofs.YtadkmidipjlcjaaDoor.Gra
