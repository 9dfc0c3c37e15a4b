/-
  GraphErrors.
-/
import Derived.Test.YtllooipoenaghaaDoorGrW
namespace Go.Proofs.YtllooipoenaghaaDoor.Gra
open Go.RowKit Go.Proofs.YtllooipoenaghaaDoor.Opr
open Go.Proofs.YtllooipoenaghaaDoor.Row (rowB rowB_none Chg other same Rd same_any)

set_option maxRecDepth 2000000 in
set_option maxHeartbeats 8000000 in
theorem errors_walk (c : C7) (pd : Option Addr) (cd : Nat) (ld : List DQ) (qm qk qa qb qc : Int) (w : World) (ht : FormTab w) (hl : LimTab w) (hd : DeedsAt w pd ld) (hlen : ld.length ≤ maxLen) :
    Calls Tryd.prog 8 #[(.agg #[.int .i64 c.b, .int .i64 c.wd, .int .i64 c.m, .int .i64 c.r, .int .i64 c.ce, .int .i64 c.lg, .int .i64 c.st]), .slice pd ld.length cd, .agg #[.int .i64 qm, .int .i64 qk, .int .i64 qa, .int .i64 qb, .int .i64 qc]] w fun e w' => e = .returned (.bool true) ∧ Below w.heap.size w w' := by
  unfold maxLen at hlen
  have HT := Lib.hid ht
  have HL := Lib.hid hl
  have HD := Lib.hid hd
  have HLEN := Lib.hid hlen
  have HR := Lib.hid (little_right c)
  obtain ⟨M, r, nc, hM, hr, hnc, hM1, hM4, hr1, hr5, hnc3⟩ := little_nat c
  have HNR := Lib.hid (And.intro hM (And.intro hr (And.intro hnc (And.intro hM4 (And.intro hr5 hnc3)))))
  clear ht hl hd hlen hM hr hnc hM1 hM4 hr1 hr5 hnc3
  go_enter Tryd.func8, Tryd.ntmps8
  go_wp2_with fail
  refine (little_any c _).mono ?_
  rintro e w1 ⟨rfl, hb⟩
  have hblk : w1.heap[w.heap.size]? = some (.cells #[.int .i64 c.b, .int .i64 c.wd, .int .i64 c.m, .int .i64 c.r, .int .i64 c.ce, .int .i64 c.lg, .int .i64 c.st] 23) := by
    rw [hb.block w.heap.size (by simp; omega)]
    exact ((Below.refl _ (w.alloc (.cells #[.int .i64 c.b, .int .i64 c.wd, .int .i64 c.m, .int .i64 c.r, .int .i64 c.ce, .int .i64 c.lg, .int .i64 c.st] 23))).alloc (Nat.le_refl _) _).block _ (by simp) |>.trans (heap_alloc_new w _)
  have HW := Lib.hid (fun W2 hW => box7 (d := little c) (W2 := W2) hblk hW)
  have hq : CellsAt w1 (w.heap.size + 1) [.int .i64 qm, .int .i64 qk, .int .i64 qa, .int .i64 qb, .int .i64 qc] :=
    ((CellsAt.new (w.alloc (.cells #[.int .i64 c.b, .int .i64 c.wd, .int .i64 c.m, .int .i64 c.r, .int .i64 c.ce, .int .i64 c.lg, .int .i64 c.st] 23)) #[.int .i64 qm, .int .i64 qk, .int .i64 qa, .int .i64 qb, .int .i64 qc] 41).at (by simp)).later hb
  have HQ := Lib.hid hq
  have HB1 : Hid (Below w.heap.size w w1) := Lib.hid ((((Below.refl _ w).alloc (Nat.le_refl _) _).alloc (by simp) _).trans (hb.mono (by simp; omega)))
  obtain ⟨hc1, hf1⟩ := bcell hb
  have hz1 : w.heap.size + 1 < w1.heap.size := by have := hb.size; simp at this; omega
  clear hb hq hblk
  generalize hL : little c = d at *
  clear hL
  by_cases hbig : 80 < ld.length
  · have h1 : (80 : Int) < (ld.length : Int) := by omega
    go_wp2_with fail
    generalize hW : World.setCell _ _ _ = W2
    obtain ⟨hbox, hoth, hsz, hbw⟩ := HW.out W2 hW
    have hb2 : Below w.heap.size w W2 := HB1.out.trans (hbw _ (Nat.le_refl _))
    refine (awake_any _ (HT.out.later hb2) (HL.out.later hb2)).mono ?_
    rintro e w3 ⟨rfl, hb3⟩
    have HF := Lib.hid (hb2.trans (hb3.mono hb2.size))
    clear hW HW hc1 hf1 hz1 hb2 hbox hb3 hoth hsz hbw
    go_wp2
    go_ret
    exact ⟨rfl, HF.out⟩
  have h1 : (ld.length : Int) ≤ 80 := by omega
  have hd1 : decide ((80 : Int) < (ld.length : Int)) = false := by simpa using h1
  go_wp2_with fail
  generalize hW : World.setCell _ _ _ = W1
  obtain ⟨hbox, hoth, hsz, hbw⟩ := HW.out W1 hW
  have hb2 : Below w.heap.size w W1 := HB1.out.trans (hbw _ (Nat.le_refl _))
  have hq2 : CellsAt W1 (w.heap.size + 1) [.int .i64 qm, .int .i64 qk, .int .i64 qa, .int .i64 qb, .int .i64 qc] := fun j v hv => (Row.cell_of_block (a := ⟨w.heap.size + 1, j, none⟩) (hoth (w.heap.size + 1) (by omega))).trans (HQ.out j v hv)
  clear hW HW hc1 hf1 hoth hbw HQ HB1
  rw [← hsz] at hz1
  refine (awake_any _ (HT.out.later hb2) (HL.out.later hb2)).mono ?_
  rintro e W2 ⟨rfl, hb3⟩
  have HB2 := Lib.hid (hb2.trans (hb3.mono hb2.size))
  have HX2 := Lib.hid (hbox.later hb3)
  have HQ2 := Lib.hid (hq2.later hb3)
  have hz2 : w.heap.size + 1 < W2.heap.size := Nat.lt_of_lt_of_le hz1 hb3.size
  clear hb2 hb3 hbox hq2 hz1 hsz
  obtain ⟨b, wd, m, rr, ce, lg, st⟩ := d
  obtain ⟨rfl, rfl, rfl, hM4, hr5, hnc3⟩ := HNR.out
  have c0 := HX2.out 0 _ rfl
  have c1 := HX2.out 1 _ rfl
  have c2 := HX2.out 2 _ rfl
  have c3 := HX2.out 3 _ rfl
  have c4 := HX2.out 4 _ rfl
  have c5 := HX2.out 5 _ rfl
  have c6 := HX2.out 6 _ rfl
  simp only at c0 c1 c2 c3 c4 c5 c6
  have HNEW := Lib.hid (new_any b wd lg st M r nc HR.out (by omega) (by omega) (by omega) W2 (HL.out.later HB2.out))
  have HBD := Lib.hid (And.intro hM4 (And.intro hr5 hnc3))
  clear hM4 hr5 hnc3 HNR
  go_wp2_with fail
  refine HNEW.out.mono ?_
  rintro e W3 ⟨G, rfl, hP⟩
  have hG := Gx.start (bx := [cv ⟨b, wd, M, r, nc, lg, st⟩, [.int .i64 qm, .int .i64 qk, .int .i64 qa, .int .i64 qb, .int .i64 qc]]) ⟨rfl, rfl, rfl⟩ HB2.out (fun i l hl => by
    match i, hl with
    | 0, hl => cases hl; exact HX2.out
    | 1, hl => cases hl; exact HQ2.out) hz2 hP
  have HG := Lib.hid hG
  clear hP hG HX2 HQ2 HNEW hz2 c0 c1 c2 c3 c4 c5 c6
  generalize hbx : [cv ⟨b, wd, M, r, nc, lg, st⟩, [.int .i64 qm, .int .i64 qk, .int .i64 qa, .int .i64 qb, .int .i64 qc]] = bx at *
  have HBX := Lib.hid hbx
  clear hbx
  go_wp2_with fail
  go_loopw [9] (fun i wr => ∃ j : Nat, j ≤ ld.length ∧ i = .int .i64 j ∧ Gx w wr bx ⟨b, wd, M, r, nc, lg, st⟩ G (sAt ⟨b, wd, M, r, nc, lg, st⟩ (s0 nc r M) ld j) M r nc) (fun i _ => ld.length - (intOf i).toNat)
  case atStart => exact ⟨0, Nat.zero_le _, rfl, HG.out⟩
  case round =>
    clear HG
    obtain ⟨j, hj, rfl, hgx⟩ := hrel
    have HX := Lib.hid hgx
    clear hgx
    have j0 : (0 : Int) ≤ (j : Int) := by omega
    have HNO := Lib.hid (sAt_wf (b := b) (wd := wd) (lg := lg) (st := st) (M := M) (r := r) (nc := nc) ld j)
    by_cases hlt : j < ld.length
    · have j1 : (j : Int) < (ld.length : Int) := by omega
      obtain ⟨B, off, rfl, e0, e1, e2, e3, e4⟩ := (HD.out.later HX.out.bel) j hlt
      have HDO := Lib.hid (fun V hV => Gx.do HX.out (by have := HNO.out.2; omega) HT.out HL.out (dq ld j) V hV)
      have HS : Hid (gS ⟨b, wd, M, r, nc, lg, st⟩ (sAt ⟨b, wd, M, r, nc, lg, st⟩ (s0 nc r M) ld j) (dq ld j) = sAt ⟨b, wd, M, r, nc, lg, st⟩ (s0 nc r M) ld (j + 1)) := Lib.hid rfl
      rw [HS.out] at HDO
      have HR0 : Hid (Below wr.heap.size wr wr) := Lib.hid (Below.refl _ _)
      have HR1 : Hid (Below wr.heap.size wr wr.drew) := Lib.hid (Below.refl _ _).drew
      generalize gV _ _ _ = v1 at HDO
      generalize gE _ _ _ = v2 at HDO
      generalize dq ld j = q at *
      obtain ⟨q0, q1, q2, q3, q4⟩ := q
      simp only at e0 e1 e2 e3 e4 HDO
      clear HX HNO HS
      go_wp2_with fail
      go_region_with (go_at_call 12; refine (HDO.out _ (by first | exact HR0.out | exact HR1.out)).mono ?_; rintro e W5 ⟨rfl, hg5⟩; have HG5 := Lib.hid hg5; clear hg5)
      all_goals go_wp2_with fail
      all_goals go_roundw
      all_goals first
        | exact ⟨j + 1, by omega, by go_num, HG5.out⟩
        | (simp [intOf]; omega)
    · obtain rfl : j = ld.length := by omega
      have HCP := Lib.hid (fun V hV => Gx.copy HX.out (by have := HNO.out.2; omega) (by have := HBD.out.1; omega) (by have := HBD.out.2.1; omega) (by have := HBD.out.2.2; omega) V hV)
      have HS5 : Hid ((sAt ⟨b, wd, M, r, nc, lg, st⟩ (s0 nc r M) ld ld.length).nO ≤ 80) := Lib.hid (by have := HNO.out.2; omega)
      generalize sAt ⟨b, wd, M, r, nc, lg, st⟩ (s0 nc r M) ld ld.length = s at *
      clear HX HNO HR HD
      go_wp2_with (go_at_call 24; fail)
      refine (HCP.out _ (Below.refl _ _)).mono ?_
      rintro e W5 ⟨G2, rfl, hbt⟩
      have HBT := Lib.hid hbt
      have HDO := Lib.hid (fun V hV => Bt.do hbt (by have := HS5.out; omega) HT.out HL.out (qm, qk, qa, qb, qc) V hV)
      have hq := hbt.fst.box 1 [.int .i64 qm, .int .i64 qk, .int .i64 qa, .int .i64 qb, .int .i64 qc] (by rw [← HBX.out]; rfl)
      have q0 := hq 0 _ rfl
      have q1 := hq 1 _ rfl
      have q2 := hq 2 _ rfl
      have q3 := hq 3 _ rfl
      have q4 := hq 4 _ rfl
      have hq0 : w.heap.size + 1 < W5.heap.size := lt_of_cell q0
      clear hbt hq HCP
      go_wp2_with (go_at_call 12; fail)
      refine (HDO.out _ (Below.refl _ _)).mono ?_
      rintro e W6 ⟨rfl, hbt⟩
      by_cases he : gE ⟨b, wd, M, r, nc, lg, st⟩ s (qm, qk, qa, qb, qc) = 0
      · have HF := Lib.hid hbt.fst.bel
        rw [he]
        clear he hbt q0 q1 q2 q3 q4 HDO
        generalize gV _ _ _ = v
        go_wp2_with fail
        go_ret
        exact ⟨rfl, HF.out⟩
      · obtain ⟨ev, es⟩ := gE_err he
        rw [es] at hbt
        rw [ev]
        have hee : (gE ⟨b, wd, M, r, nc, lg, st⟩ s (qm, qk, qa, qb, qc) == 0) = false := by rw [beq_eq_false_iff_ne]; exact he
        clear ev es he HDO q0 q1 q2 q3 q4 hq0
        generalize gE _ _ _ = v at *
        have HR1 := Lib.hid (fun V hV => Gx.reg hbt.fst V hV)
        have HR2 := Lib.hid (fun V hV => Gx.reg hbt.snd V hV)
        have HC1 := Lib.hid (fun V hV => Gx.cell hbt.fst V hV)
        have HC2 := Lib.hid (fun V hV => Gx.cell hbt.snd V hV)
        have HN1 := Lib.hid (fun V hV => Gx.count hbt.fst V hV)
        have HN2 := Lib.hid (fun V hV => Gx.count hbt.snd V hV)
        have HF1 := Lib.hid (fun V hV => Gx.fields hbt.fst (by have := HS5.out; omega) V hV)
        have HF2 := Lib.hid (fun V hV => Gx.fields hbt.snd (by have := HS5.out; omega) V hV)
        have HFL := Lib.hid (fdI_len hbt.fst.wf)
        have HBW := Lib.hid hbt.fst.bel
        have hcf := hbt.fst.box 0 (cv ⟨b, wd, M, r, nc, lg, st⟩) (by rw [← HBX.out]; rfl)
        have HCF : Hid (CellsAt W6 w.heap.size (cv ⟨b, wd, M, r, nc, lg, st⟩)) := Lib.hid hcf
        clear hbt hcf HBT
        generalize s.nO = nO at *
        go_wp2_with fail
        go_loopw [13] (fun i wr => ∃ a : Nat, a ≤ M ∧ i = .int .i64 a ∧ Below W6.heap.size W6 wr) (fun i _ => M - (intOf i).toNat)
        case atStart => exact ⟨0, Nat.zero_le _, rfl, Below.refl _ _⟩
        case round =>
          obtain ⟨a, ha, rfl, hb6⟩ := hrel
          have HB6 := Lib.hid hb6
          have c2 := (HCF.out.later hb6) 2 _ rfl
          have c3 := (HCF.out.later hb6) 3 _ rfl
          simp only at c2 c3
          clear hb6
          have a0 : (0 : Int) ≤ (a : Int) := by omega
          by_cases hlt : a < M
          · have a1 : (a : Int) < (M : Int) := by omega
            have a4 : (a : Int) ≤ 1000 := by have := HBD.out.1; omega
            go_wp2_with fail
            go_loopw [14] (fun i wr => ∃ k : Nat, k ≤ r ∧ i = .int .i64 k ∧ Below W6.heap.size W6 wr) (fun i _ => r - (intOf i).toNat)
            case atStart => exact ⟨0, Nat.zero_le _, rfl, HB6.out⟩
            case round =>
              obtain ⟨k, hk, rfl, hb7⟩ := hrel
              have HB7 := Lib.hid hb7
              have c2 := (HCF.out.later hb7) 2 _ rfl
              have c3 := (HCF.out.later hb7) 3 _ rfl
              simp only at c2 c3
              clear hb7
              have k0 : (0 : Int) ≤ (k : Int) := by omega
              by_cases hlk : k < r
              · have k1 : (k : Int) < (r : Int) := by omega
                have k4 : (k : Int) ≤ 1000 := by have := HBD.out.2.1; omega
                have HRA := Lib.hid (HR1.out _ HB7.out (a : Int) (k : Int))
                have HRB := Lib.hid (HR2.out _ HB7.out (a : Int) (k : Int))
                generalize rgI s a k = rv at HRA HRB
                have hne : (rv != rv) = false := by simp
                go_wp2_with (first
                  | (go_at_call 20; (with_reducible refine Calls.mono HRA.out ?_); rintro e w9 ⟨rfl, hw9⟩; cases hw9)
                  | (go_at_call 20; (with_reducible refine Calls.mono HRB.out ?_); rintro e w9 ⟨rfl, hw9⟩; cases hw9))
                go_roundw
                case rel => exact ⟨k + 1, by omega, by go_num, HB7.out⟩
                case measure => simp [intOf]; omega
              · obtain rfl : k = r := by omega
                go_wp2_with fail
                go_roundw
                case rel => exact ⟨a + 1, by omega, by go_num, HB7.out⟩
                case measure => simp [intOf]; omega
          · obtain rfl : a = M := by omega
            go_wp2_with fail
            go_loopw [15] (fun i wr => ∃ a : Nat, a ≤ nc ∧ i = .int .i64 a ∧ Below W6.heap.size W6 wr) (fun i _ => nc - (intOf i).toNat)
            case atStart => exact ⟨0, Nat.zero_le _, rfl, HB6.out⟩
            case round =>
              clear HB6 c2 c3 a0
              obtain ⟨a, ha, rfl, hb6⟩ := hrel
              have HB6 := Lib.hid hb6
              have c4 := (HCF.out.later hb6) 4 _ rfl
              simp only at c4
              clear hb6
              have a0 : (0 : Int) ≤ (a : Int) := by omega
              by_cases hlt : a < nc
              · have a1 : (a : Int) < (nc : Int) := by omega
                have a4 : (a : Int) ≤ 1000 := by have := HBD.out.2.2; omega
                have HRA := Lib.hid (HC1.out _ HB6.out (a : Int))
                have HRB := Lib.hid (HC2.out _ HB6.out (a : Int))
                generalize atI (s.E 2) a = rv at HRA HRB
                have hne : (rv != rv) = false := by simp
                go_wp2_with (first
                  | (go_at_call 22; (with_reducible refine Calls.mono HRA.out ?_); rintro e w9 ⟨rfl, hw9⟩; cases hw9)
                  | (go_at_call 22; (with_reducible refine Calls.mono HRB.out ?_); rintro e w9 ⟨rfl, hw9⟩; cases hw9))
                go_roundw
                case rel => exact ⟨a + 1, by omega, by go_num, HB6.out⟩
                case measure => simp [intOf]; omega
              · obtain rfl : a = nc := by omega
                go_wp2_with fail
                go_loopw [16] (fun i wr => ∃ a : Nat, a ≤ nO ∧ i = .int .i64 ((a : Int) + 1) ∧ Below W6.heap.size W6 wr) (fun i _ => nO + 1 - (intOf i).toNat)
                case atStart => exact ⟨0, Nat.zero_le _, rfl, HB6.out⟩
                case round =>
                  clear HB6 c4 a0
                  obtain ⟨a, ha, rfl, hb6⟩ := hrel
                  have HB6 := Lib.hid hb6
                  clear hb6
                  have a0 : (0 : Int) ≤ (a : Int) := by omega
                  have a80 : (a : Int) ≤ 80 := by have := HS5.out; omega
                  by_cases hlt : a < nO
                  · have a1 : (a : Int) + 1 ≤ (nO : Int) := by omega
                    have hla : decide ((a : Int) + 1 ≤ (nO : Int)) = true := decide_eq_true a1
                    have HRA := Lib.hid (HF1.out _ HB6.out ((a : Int) + 1))
                    have HRB := Lib.hid (fun V hV => HF2.out V hV ((a : Int) + 1))
                    have HLF := Lib.hid (HFL.out ((a : Int) + 1))
                    have HNN := Lib.hid (HN2.out _ HB6.out)
                    generalize fdI s ((a : Int) + 1) = fl at *
                    go_wp2_with (first
                      | (go_at_call 14; refine HNN.out.mono ?_; rintro e w9 ⟨rfl, hw9⟩; cases hw9)
                      | (go_at_call 23; (with_reducible refine Calls.mono HRA.out ?_); rintro e W7 ⟨p1, k1, rfl, ho1, hb7⟩; have HO1 := Lib.hid ho1; have HB7 := Lib.hid (HB6.out.trans (hb7.mono HB6.out.size)); clear ho1 hb7)
                      | (go_at_call 23; (with_reducible refine Calls.mono (HRB.out _ HB7.out) ?_); rintro e W8 ⟨p2, k2, rfl, ho2, hb8⟩; have HR1 := Lib.hid ((Rd.of_owns HO1.out).later hb8); have HR2 := Lib.hid (Rd.of_owns ho2); have HB8 := Lib.hid (HB7.out.trans (hb8.mono HB7.out.size)); clear ho2 hb8)
                      | (go_at_call 15; refine Calls.mono (same_any p1 p2 k1 k2 fl _ HR1.out HR2.out (by have := HLF.out; omega)) ?_; rintro e W9 ⟨rfl, n9, hw9⟩; have HB9 := Lib.hid (hw9 ▸ below_drewN HB8.out n9); clear hw9))
                    go_roundw
                    case rel => exact ⟨a + 1, by omega, by go_num, HB9.out⟩
                    case measure => simp [intOf]; omega
                  · obtain rfl : a = nO := by omega
                    have hla : decide ((a : Int) + 1 ≤ (a : Int)) = false := decide_eq_false (by omega)
                    have HNN := Lib.hid (HN2.out _ HB6.out)
                    have HNM := Lib.hid (HN1.out _ HB6.out)
                    have HFB := Lib.hid (HBW.out.trans (HB6.out.mono HBW.out.size))
                    go_wp2_with (first
                      | (go_at_call 14; (with_reducible refine Calls.mono HNN.out ?_); rintro e w9 ⟨rfl, hw9⟩; cases hw9)
                      | (go_at_call 14; (with_reducible refine Calls.mono HNM.out ?_); rintro e w9 ⟨rfl, hw9⟩; cases hw9))
                    go_ret
                    exact ⟨rfl, HFB.out⟩
end Go.Proofs.YtllooipoenaghaaDoor.Gra
