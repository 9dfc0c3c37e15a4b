/-
  GraphReaches.
-/
import Derived.Test.YtcdnbheoelnghaaDoorGrM3
namespace Go.Proofs.YtcdnbheoelnghaaDoor.Gra
open Go.RowKit Go.Proofs.YtcdnbheoelnghaaDoor.Opr
open Go.Proofs.YtcdnbheoelnghaaDoor.Row (rowB rowB_none Chg other same Rd same_any)

set_option maxRecDepth 2000000 in
set_option maxHeartbeats 8000000 in
theorem reaches_walk (c : C7) (pd : Option Addr) (cd : Nat) (ld : List DQ) (x0 x1 : Int) (w : World) (ht : FormTab w) (hl : LimTab w) (hd : DeedsAt w pd ld) (hlen : ld.length ≤ maxLen) :
    Calls Tryd.prog 5 #[(.agg #[.int .i64 c.b, .int .i64 c.wd, .int .i64 c.m, .int .i64 c.r, .int .i64 c.ce, .int .i64 c.lg, .int .i64 c.st]), .slice pd ld.length cd, .agg #[.int .i64 x0, .int .i64 x1]] w fun e w' => e = .returned (.bool true) ∧ Below w.heap.size w w' := by
  unfold maxLen at hlen
  have HT := Lib.hid ht
  have HL := Lib.hid hl
  have HD := Lib.hid hd
  have HLEN := Lib.hid hlen
  have HR := Lib.hid (little_right c)
  obtain ⟨M, r, nc, hM, hr, hnc, hM1, hM4, hr1, hr5, hnc3⟩ := little_nat c
  have HNR := Lib.hid (And.intro hM (And.intro hr (And.intro hnc (And.intro hM4 (And.intro hr5 hnc3)))))
  clear ht hl hd hlen hM hr hnc hM1 hM4 hr1 hr5 hnc3
  go_enter Tryd.func5, Tryd.ntmps5
  go_wp2_with fail
  refine (little_any c _).mono ?_
  rintro e w1 ⟨rfl, hb⟩
  have hblk : w1.heap[w.heap.size]? = some (.cells #[.int .i64 c.b, .int .i64 c.wd, .int .i64 c.m, .int .i64 c.r, .int .i64 c.ce, .int .i64 c.lg, .int .i64 c.st] 23) := by
    rw [hb.block w.heap.size (by simp; omega)]
    exact ((Below.refl _ (w.alloc (.cells #[.int .i64 c.b, .int .i64 c.wd, .int .i64 c.m, .int .i64 c.r, .int .i64 c.ce, .int .i64 c.lg, .int .i64 c.st] 23))).alloc (Nat.le_refl _) _).block _ (by simp) |>.trans (heap_alloc_new w _)
  have HW := Lib.hid (fun W2 hW => box7 (d := little c) (W2 := W2) hblk hW)
  have hq : CellsAt w1 (w.heap.size + 1) [.int .i64 x0, .int .i64 x1] :=
    ((CellsAt.new (w.alloc (.cells #[.int .i64 c.b, .int .i64 c.wd, .int .i64 c.m, .int .i64 c.r, .int .i64 c.ce, .int .i64 c.lg, .int .i64 c.st] 23)) #[.int .i64 x0, .int .i64 x1] 54).at (by simp)).later hb
  have HQ := Lib.hid hq
  have HB1 : Hid (Below w.heap.size w w1) := Lib.hid ((((Below.refl _ w).alloc (Nat.le_refl _) _).alloc (by simp) _).trans (hb.mono (by simp; omega)))
  obtain ⟨hc1, hf1⟩ := bcell hb
  have hz1 : w.heap.size + 1 < w1.heap.size := by have := hb.size; simp at this; omega
  clear hb hq hblk
  generalize hL : little c = d at *
  clear hL
  by_cases hbig : 80 < ld.length
  · have h1 : (80 : Int) < (ld.length : Int) := by omega
    go_wp2_with fail
    generalize hW : World.setCell _ _ _ = W2
    obtain ⟨hbox, hoth, hsz, hbw⟩ := HW.out W2 hW
    have hb2 : Below w.heap.size w W2 := HB1.out.trans (hbw _ (Nat.le_refl _))
    refine (awake_any _ (HT.out.later hb2) (HL.out.later hb2)).mono ?_
    rintro e w3 ⟨rfl, hb3⟩
    have HF := Lib.hid (hb2.trans (hb3.mono hb2.size))
    clear hW HW hc1 hf1 hz1 hb2 hbox hb3 hoth hsz hbw
    go_wp2
    go_ret
    exact ⟨rfl, HF.out⟩
  have h1 : (ld.length : Int) ≤ 80 := by omega
  have hd1 : decide ((80 : Int) < (ld.length : Int)) = false := by simpa using h1
  go_wp2_with fail
  generalize hW : World.setCell _ _ _ = W1
  obtain ⟨hbox, hoth, hsz, hbw⟩ := HW.out W1 hW
  have hb2 : Below w.heap.size w W1 := HB1.out.trans (hbw _ (Nat.le_refl _))
  have hq2 : CellsAt W1 (w.heap.size + 1) [.int .i64 x0, .int .i64 x1] := fun j v hv => (Row.cell_of_block (a := ⟨w.heap.size + 1, j, none⟩) (hoth (w.heap.size + 1) (by omega))).trans (HQ.out j v hv)
  clear hW HW hc1 hf1 hoth hbw HQ HB1
  rw [← hsz] at hz1
  refine (awake_any _ (HT.out.later hb2) (HL.out.later hb2)).mono ?_
  rintro e W2 ⟨rfl, hb3⟩
  have HB2 := Lib.hid (hb2.trans (hb3.mono hb2.size))
  have HX2 := Lib.hid (hbox.later hb3)
  have HQ2 := Lib.hid (hq2.later hb3)
  have hz2 : w.heap.size + 1 < W2.heap.size := Nat.lt_of_lt_of_le hz1 hb3.size
  clear hb2 hb3 hbox hq2 hz1 hsz
  obtain ⟨b, wd, m, rr, ce, lg, st⟩ := d
  obtain ⟨rfl, rfl, rfl, hM4, hr5, hnc3⟩ := HNR.out
  have c0 := HX2.out 0 _ rfl
  have c1 := HX2.out 1 _ rfl
  have c2 := HX2.out 2 _ rfl
  have c3 := HX2.out 3 _ rfl
  have c4 := HX2.out 4 _ rfl
  have c5 := HX2.out 5 _ rfl
  have c6 := HX2.out 6 _ rfl
  simp only at c0 c1 c2 c3 c4 c5 c6
  have HNEW := Lib.hid (new_any b wd lg st M r nc HR.out (by omega) (by omega) (by omega) W2 (HL.out.later HB2.out))
  have HBD := Lib.hid (And.intro hM4 (And.intro hr5 hnc3))
  clear hM4 hr5 hnc3 HNR
  go_wp2_with fail
  refine HNEW.out.mono ?_
  rintro e W3 ⟨G, rfl, hP⟩
  have hG := Gx.start (bx := [cv ⟨b, wd, M, r, nc, lg, st⟩, [.int .i64 x0, .int .i64 x1]]) ⟨rfl, rfl, rfl⟩ HB2.out (fun i l hl => by
    match i, hl with
    | 0, hl => cases hl; exact HX2.out
    | 1, hl => cases hl; exact HQ2.out) hz2 hP
  have HG := Lib.hid hG
  clear hP hG HX2 HQ2 HNEW hz2 c0 c1 c2 c3 c4 c5 c6
  generalize hbx : [cv ⟨b, wd, M, r, nc, lg, st⟩, [.int .i64 x0, .int .i64 x1]] = bx at *
  have HBX := Lib.hid hbx
  clear hbx
  go_wp2_with fail
  go_loopw [9] (fun i wr => ∃ j : Nat, j ≤ ld.length ∧ i = .int .i64 j ∧ Gx w wr bx ⟨b, wd, M, r, nc, lg, st⟩ G (sAt ⟨b, wd, M, r, nc, lg, st⟩ (s0 nc r M) ld j) M r nc) (fun i _ => ld.length - (intOf i).toNat)
  case atStart => exact ⟨0, Nat.zero_le _, rfl, HG.out⟩
  case round =>
    clear HG
    obtain ⟨j, hj, rfl, hgx⟩ := hrel
    have HX := Lib.hid hgx
    clear hgx
    have j0 : (0 : Int) ≤ (j : Int) := by omega
    have HNO := Lib.hid (sAt_wf (b := b) (wd := wd) (lg := lg) (st := st) (M := M) (r := r) (nc := nc) ld j)
    by_cases hlt : j < ld.length
    · have j1 : (j : Int) < (ld.length : Int) := by omega
      obtain ⟨B, off, rfl, e0, e1, e2, e3, e4⟩ := (HD.out.later HX.out.bel) j hlt
      have HDO := Lib.hid (fun V hV => Gx.do HX.out (by have := HNO.out.2; omega) HT.out HL.out (dq ld j) V hV)
      have HS : Hid (gS ⟨b, wd, M, r, nc, lg, st⟩ (sAt ⟨b, wd, M, r, nc, lg, st⟩ (s0 nc r M) ld j) (dq ld j) = sAt ⟨b, wd, M, r, nc, lg, st⟩ (s0 nc r M) ld (j + 1)) := Lib.hid rfl
      rw [HS.out] at HDO
      have HR0 : Hid (Below wr.heap.size wr wr) := Lib.hid (Below.refl _ _)
      have HR1 : Hid (Below wr.heap.size wr wr.drew) := Lib.hid (Below.refl _ _).drew
      generalize gV _ _ _ = v1 at HDO
      generalize gE _ _ _ = v2 at HDO
      generalize dq ld j = q at *
      obtain ⟨q0, q1, q2, q3, q4⟩ := q
      simp only at e0 e1 e2 e3 e4 HDO
      clear HX HNO HS
      go_wp2_with fail
      go_region_with (go_at_call 9; refine (HDO.out _ (by first | exact HR0.out | exact HR1.out)).mono ?_; rintro e W5 ⟨rfl, hg5⟩; have HG5 := Lib.hid hg5; clear hg5)
      all_goals go_wp2_with fail
      all_goals go_roundw
      all_goals first
        | exact ⟨j + 1, by omega, by go_num, HG5.out⟩
        | (simp [intOf]; omega)
    · obtain rfl : j = ld.length := by omega
      have hn80 : (sAt ⟨b, wd, M, r, nc, lg, st⟩ (s0 nc r M) ld ld.length).nO ≤ 80 := by have := HNO.out.2; omega
      generalize sAt ⟨b, wd, M, r, nc, lg, st⟩ (s0 nc r M) ld ld.length = s at *
      have HN80 := Lib.hid hn80
      have HRC := Lib.hid (Gx.reach HX.out (by have := HBD.out.1; omega) (by have := HBD.out.2.1; omega) (by have := HBD.out.2.2; omega) (by omega) wr (Below.refl _ _))
      have HCL := Lib.hid (fun u v => rcS_fields (u := u) (v := v) HX.out.wf)
      have HFL := Lib.hid (fdI_len HX.out.wf)
      have HLN : Hid ((rcS s).length ≤ 81) := Lib.hid (Nat.le_trans (rcS_len s) (by omega))
      clear hn80 HNO HR HD
      go_wp2_with (go_at_call 15; fail)
      refine HRC.out.mono ?_
      rintro e W5 ⟨p1, kc1, rfl, ho1, hb5⟩
      have HI := Lib.hid (Gi.of HX.out hb5 ho1)
      generalize hL : rcS s = L at *
      have HLS := Lib.hid hL
      clear ho1 hb5 hL HRC HX
      go_wp2_with fail
      go_loopw [11] (fun i wr => ∃ a : Nat, a ≤ L.length ∧ i = .int .i64 a ∧ Gi w wr bx ⟨b, wd, M, r, nc, lg, st⟩ G s M r nc p1 L) (fun i _ => L.length - (intOf i).toNat)
      case atStart => exact ⟨0, Nat.zero_le _, rfl, HI.out⟩
      case round =>
        clear HI
        obtain ⟨a, ha, rfl, hgi⟩ := hrel
        have HI := Lib.hid hgi
        clear hgi
        have a0 : (0 : Int) ≤ (a : Int) := by omega
        have a8 : (L.length : Int) ≤ 81 := by have := HLN.out; omega
        by_cases hlt : a < L.length
        · have a1 : (a : Int) < (L.length : Int) := by omega
          obtain ⟨B, off, rfl, hc⟩ := HI.out.rd.at hlt
          have hmem : L.getD a 0 ∈ L := by rw [List.getD_eq_getElem?_getD, List.getElem?_eq_getElem hlt]; exact List.getElem_mem hlt
          have HME := Lib.hid hmem
          have HFD := Lib.hid (Gx.fields HI.out.gx (by have := HN80.out; omega) wr (Below.refl _ _) (L.getD a 0))
          have HFN := Lib.hid (HFL.out (L.getD a 0))
          have HCU := Lib.hid (fun v => HCL.out (L.getD a 0) v hmem)
          generalize L.getD a 0 = u at *
          clear hmem
          go_wp2_with (go_at_call 20; fail)
          refine HFD.out.mono ?_
          rintro e W6 ⟨p2, kc2, rfl, ho2, hb6⟩
          have HI6 := Lib.hid (HI.out.later hb6)
          have HR2 := Lib.hid (Rd.of_owns ho2)
          generalize fdI s u = fl at *
          have f8 : (fl.length : Int) ≤ 15 := by have := HFN.out; omega
          clear ho2 hb6 HFD HI hc
          go_wp2_with fail
          go_loopw [13] (fun i wr => ∃ k : Nat, k ≤ fl.length ∧ i = .int .i64 k ∧ wr = W6) (fun i _ => fl.length - (intOf i).toNat)
          case atStart => exact ⟨0, Nat.zero_le _, rfl, rfl⟩
          case round =>
            obtain ⟨k, hk, rfl, rfl⟩ := hrel
            have k0 : (0 : Int) ≤ (k : Int) := by omega
            by_cases hlk : k < fl.length
            · have k1 : (k : Int) < (fl.length : Int) := by omega
              obtain ⟨B2, off2, rfl, hc2⟩ := HR2.out.at hlk
              have hmem : fl.getD k 0 ∈ fl := by rw [List.getD_eq_getElem?_getD, List.getElem?_eq_getElem hlk]; exact List.getElem_mem hlk
              have HCV := Lib.hid (HCU.out (fl.getD k 0) hmem)
              have HIN := Lib.hid (in_any _ kc1 L (fl.getD k 0) wr HI6.out.rd.rd0 (by have := HLN.out; omega))
              generalize fl.getD k 0 = v at *
              clear hmem
              by_cases hv : v = 0
              · have hvb : (v != 0) = false := by simp [hv]
                go_wp2_with fail
                go_roundw
                case rel => exact ⟨k + 1, by omega, by go_num, trivial⟩
                case measure => simp [intOf]; omega
              · have hvb : (v != 0) = true := by simp [hv]
                have hin : decide (v ∈ L) = true := decide_eq_true (HCV.out hv)
                rw [hin] at HIN
                clear hv
                go_wp2_with (go_at_call 22; refine HIN.out.mono ?_; rintro e w9 ⟨rfl, hw9⟩; cases hw9)
                go_roundw
                case rel => exact ⟨k + 1, by omega, by go_num, trivial⟩
                case measure => simp [intOf]; omega
            · obtain rfl : k = fl.length := by omega
              go_wp2_with fail
              go_roundw
              case rel => exact ⟨a + 1, by omega, by go_num, HI6.out⟩
              case measure => simp [intOf]; omega
        · obtain rfl : a = L.length := by omega
          have hq := HI.out.gx.box 1 [.int .i64 x0, .int .i64 x1] (by rw [← HBX.out]; rfl)
          have q0 := hq 0 _ rfl
          have q1 := hq 1 _ rfl
          have HDO := Lib.hid (fun V hV => Gi.do HI.out (by have := HN80.out; omega) HT.out HL.out (x0, 6, x1, 0, 0) V hV)
          have hq0 : w.heap.size + 1 < wr.heap.size := lt_of_cell q0
          clear hq
          go_wp2_with (go_at_call 9; fail)
          refine (HDO.out _ (Below.refl _ _)).mono ?_
          rintro e W6 ⟨rfl, hgi⟩
          have HI6 := Lib.hid hgi
          have HRC := Lib.hid (Gx.reach hgi.gx (by have := HBD.out.1; omega) (by have := HBD.out.2.1; omega) (by have := HBD.out.2.2; omega) (by rw [drop_nO]; have := HN80.out; omega) W6 (Below.refl _ _))
          have HLE := Lib.hid (fun v => drop_less (c := ⟨b, wd, M, r, nc, lg, st⟩) (s := s) x0 x1 (v := v))
          have HL2 : Hid ((rcS (gS ⟨b, wd, M, r, nc, lg, st⟩ s (x0, 6, x1, 0, 0))).length ≤ 81) := Lib.hid (by have := rcS_len (gS ⟨b, wd, M, r, nc, lg, st⟩ s (x0, 6, x1, 0, 0)); rw [drop_nO] at this; have := HN80.out; omega)
          rw [HLS.out] at HLE
          generalize gV _ _ _ = v1
          generalize gE _ _ _ = v2
          generalize gS ⟨b, wd, M, r, nc, lg, st⟩ s (x0, 6, x1, 0, 0) = s2 at *
          generalize rcS s2 = L2 at *
          clear hgi HDO q0 q1 hq0 HI
          go_wp2_with (go_at_call 15; fail)
          refine HRC.out.mono ?_
          rintro e W7 ⟨p2, kc2, rfl, ho2, hb7⟩
          have HI7 := Lib.hid (HI6.out.later hb7)
          have HR2 := Lib.hid (Rd.of_owns ho2)
          have HB7 := Lib.hid HI7.out.gx.bel
          clear ho2 hb7 HRC HI6
          go_wp2_with fail
          go_loopw [15] (fun i wr => ∃ a : Nat, a ≤ L2.length ∧ i = .int .i64 a ∧ wr = W7) (fun i _ => L2.length - (intOf i).toNat)
          case atStart => exact ⟨0, Nat.zero_le _, rfl, rfl⟩
          case round =>
            obtain ⟨k, hk, rfl, rfl⟩ := hrel
            have k0 : (0 : Int) ≤ (k : Int) := by omega
            have k8 : (L2.length : Int) ≤ 81 := by have := HL2.out; omega
            by_cases hlk : k < L2.length
            · have k1 : (k : Int) < (L2.length : Int) := by omega
              obtain ⟨B2, off2, rfl, hc2⟩ := HR2.out.at hlk
              have hmem : L2.getD k 0 ∈ L2 := by rw [List.getD_eq_getElem?_getD, List.getElem?_eq_getElem hlk]; exact List.getElem_mem hlk
              have HIN := Lib.hid (in_any _ kc1 L (L2.getD k 0) wr HI7.out.rd.rd0 (by have := HLN.out; omega))
              have hin : decide (L2.getD k 0 ∈ L) = true := decide_eq_true (HLE.out _ hmem)
              rw [hin] at HIN
              generalize L2.getD k 0 = v at *
              clear hmem hin
              go_wp2_with (go_at_call 22; fail)
              refine HIN.out.mono ?_
              rintro e w9 ⟨rfl, hw9⟩
              obtain rfl : w9 = wr := hw9.symm
              clear hw9 hc2 HIN
              go_wp2_with fail
              go_roundw
              case rel => exact ⟨k + 1, by omega, by go_num, trivial⟩
              case measure => simp [intOf]; omega
            · obtain rfl : k = L2.length := by omega
              go_wp2_with fail
              go_ret
              exact ⟨rfl, HB7.out⟩
end Go.Proofs.YtcdnbheoelnghaaDoor.Gra
