/-
  The law HeapCells answers true, for every config and row of pairs.
-/
import Derived.Test.YtcoolapancdioaaDoorHpO
namespace Go.Proofs.YtcoolapancdioaaDoor.Hp
open Go.RowKit
open Blk (Cfg BoxIs little little_any little_right box7)
open Go.Proofs.YtcoolapancdioaaDoor.Row (Chg)
open Go.Proofs.YtcoolapancdioaaDoor.Addr (Tabs)

/-- Pairs of numbers that came in. -/
def PairsL (S : Nat) (W : World) (p : Option Addr) (l : List (Int × Int)) : Prop := ∀ j, j < l.length → ∃ b off, p = some ⟨b, off, none⟩ ∧ b < S ∧ W.cell? ⟨b, off + j * 2, none⟩ = some (.int .i64 (l.getD j (0, 0)).1) ∧ W.cell? ⟨b, off + j * 2 + 1, none⟩ = some (.int .i64 (l.getD j (0, 0)).2)

theorem little_ce (c : Cfg) : ∃ nc : Nat, (little c).ce = (nc : Int) ∧ nc ≤ 3 := by
  have : (little c).ce = c.ce % 4 := rfl
  exact ⟨(little c).ce.toNat, by omega, by omega⟩
theorem little_n (c : Cfg) : ∃ n : Nat, (little c).b * (little c).wd = (n : Int) ∧ n ≤ 1048576 := by
  obtain ⟨p0, p1⟩ := (Blk.slots_bd (little_right c)).words
  exact ⟨((little c).b * (little c).wd).toNat, by omega, by omega⟩

set_option maxRecDepth 100000 in
set_option maxHeartbeats 8000000 in
theorem cells_walk (c : Cfg) (pb : Option Addr) (cb : Nat) (zb : List (Int × Int)) (w : World) (ht : Tabs w) (hb : PairsL w.heap.size w pb zb) :
    Calls Tryd.prog 4 #[(.agg #[.int .i64 c.b, .int .i64 c.wd, .int .i64 c.m, .int .i64 c.r, .int .i64 c.ce, .int .i64 c.lg, .int .i64 c.st]), .slice pb zb.length cb] w fun e w' => e = .returned (.bool true) ∧ Below w.heap.size w w' := by
  have HT := Lib.hid ht
  have HB := Lib.hid hb
  have HR := Lib.hid (little_right c)
  obtain ⟨nc, hnc, hnc3⟩ := little_ce c
  obtain ⟨n, hn, hn2⟩ := little_n c
  clear ht hb
  go_enter Tryd.func4, Tryd.ntmps4
  go_wp2_with fail
  refine (little_any c _).mono ?_
  rintro e w1 ⟨rfl, hb⟩
  have HW := Lib.hid (fun W2 hW => box7 (d := little c) (W2 := W2) (by simpa using hb) hW)
  obtain ⟨hc1, hf1⟩ := bcell hb
  have hz1 : w.heap.size < w1.heap.size := by have := hb.size; simp at this; omega
  clear hb
  generalize hL : little c = d at *
  clear hL
  have HNC := Lib.hid hnc
  have HN := Lib.hid hn
  clear hnc hn
  by_cases hbig : 60 < zb.length
  · have h1 : (60 : Int) < (zb.length : Int) := by omega
    go_wp2_with fail
    generalize hW : World.setCell _ _ _ = W2
    obtain ⟨hbox, hb2⟩ := HW.out W2 hW
    refine (awake_any _ (HT.out.later hb2)).mono ?_
    rintro e w3 ⟨rfl, hb3⟩
    have HF := Lib.hid (hb2.trans (hb3.mono hb2.size))
    clear hW HW hc1 hf1 hz1 hb2 hbox hb3
    go_wp2
    go_ret
    exact ⟨rfl, HF.out⟩
  have h1 : (zb.length : Int) ≤ 60 := by omega
  have hd1 : decide ((60 : Int) < (zb.length : Int)) = false := by simpa using h1
  go_wp2_with fail
  generalize hW : World.setCell _ _ _ = W1
  obtain ⟨hbox, hb2⟩ := HW.out W1 hW
  clear hW HW hc1 hf1 hz1
  refine (awake_any _ (HT.out.later hb2)).mono ?_
  rintro e W2 ⟨rfl, hb3⟩
  have HB2 := Lib.hid (hb2.trans (hb3.mono hb2.size))
  have HX2 := Lib.hid (hbox.later hb3)
  have c0 := (hbox.later hb3).b0
  have c1 := (hbox.later hb3).b1
  have c2 := (hbox.later hb3).b2
  have c3 := (hbox.later hb3).b3
  have c4 := (hbox.later hb3).b4
  have c5 := (hbox.later hb3).b5
  have c6 := (hbox.later hb3).b6
  clear hb2 hb3 hbox
  go_wp2_with fail
  refine (new_good d n nc _ (HT.out.later HB2.out) HR.out HN.out HNC.out).mono ?_
  rintro e w3 ⟨H, dd, rfl, hI, hM, hb3⟩
  have HC3 := Lib.hid (Ce.start HB2.out HX2.out hI hM hb3)
  have HM3 := Lib.hid hM
  clear hI hM hb3 c0 c1 c2 c3 c4 c5 c6
  have d0 := HC3.out.box.b0
  have d1 := HC3.out.box.b1
  have d4 := HC3.out.box.b4
  rw [HNC.out] at d4
  have hmk := make_ints nc (by omega)
  have hlt := HC3.out.box.lt
  have hmul : d.b * d.wd = (n : Int) := HN.out
  have hw1 : IntKind.i64.wrap (n : Int) = (n : Int) := IntWalk.i64_in _ (by omega)
  go_wp2_with fail
  generalize hX : World.alloc _ _ = X
  have hRb : w.heap.size < w3.heap.size := hlt
  have hCX : Ce w X H dd (st0 d n nc) 0 d n nc := by rw [← hX]; exact HC3.out.later ((Below.refl _ _).alloc (Nat.le_refl _) _)
  have hWX : Rw X H dd w3.heap.size (st0 d n nc).ce := by
    rw [← hX]
    refine ⟨fun t ht => ?_, fun t ht => by simp, fun e => by have := HC3.out.is.lt e; omega, by simp⟩
    have ht' : t < nc := by simpa [st0] using ht
    show _ = some (Value.int .i64 ((List.replicate nc (0 : Int)).getD t 0))
    rw [List.getD_eq_getElem?_getD, List.getElem?_replicate, if_pos ht']
    simp [zeroInts_at nc t ht']
  have HCX := Lib.hid hCX
  have HWX := Lib.hid hWX
  clear hX hCX hWX d0 d1 d4 hmk hlt HC3
  generalize w3.heap.size = Rb at *
  go_loopw [9] (fun i wr => ∃ (j : Nat) (dd : Ids) (s : St) (m : Nat), j ≤ zb.length ∧ i = .int .i64 (j : Int) ∧ m ≤ 200 * j ∧ Ce w wr H dd s m d n nc ∧ Rw wr H dd Rb s.ce) (fun i _ => zb.length - (intOf i).toNat)
  case atStart => exact ⟨0, dd, _, 0, Nat.zero_le _, rfl, Nat.le_refl _, HCX.out, HWX.out⟩
  case round =>
    clear HCX HWX
    obtain ⟨j, dd, s, m, hj, rfl, hm, hC, hW⟩ := hrel
    have HC := Lib.hid hC
    have HW := Lib.hid hW
    have hlen := hC.hl
    have hnn := hC.hn
    have i1 : (0 : Int) ≤ (j : Int) := Int.natCast_nonneg _
    by_cases hltj : j < zb.length
    · have i2 : (j : Int) < (zb.length : Int) := by omega
      obtain ⟨b, off, rfl, hbS, hw1, hw2⟩ := HB.out j hltj
      have hc1 := (hC.bel.cell (p := ⟨b, _, none⟩) hbS).trans hw1
      have hc2 := (hC.bel.cell (p := ⟨b, _, none⟩) hbS).trans hw2
      have q4 := hC.box.b4
      rw [HNC.out] at q4
      clear hw1 hw2 hC hW
      generalize zb.getD j (0, 0) = pr at *
      obtain ⟨at0, v⟩ := pr
      simp only at hc1 hc2
      have n0 : (0 : Int) ≤ (n : Int) := Int.natCast_nonneg _
      have n1 : (n : Int) ≤ 1048576 := by omega
      go_wp2_with fail
      go_region
      have hbd : Below wr.heap.size wr wr.drew := ⟨rfl, rfl, rfl, Nat.le_refl _, fun _ _ => rfl⟩
      have HC' := Lib.hid (HC.out.later hbd)
      have HW' := Lib.hid (HW.out.step (dd' := dd) (Chg.of_below hbd) (fun _ e => .inl e))
      have q4' := HC'.out.box.b4
      rw [HNC.out] at q4'
      clear HC HW q4 hc1 hc2 hbd
      generalize wr.drew = wq at *
      have HC := HC'
      have HW := HW'
      have q4 := q4'
      clear HC' HW' q4'
      by_cases g1 : 0 ≤ at0
      by_cases g2 : at0 < (nc : Int)
      by_cases g3 : 0 ≤ v
      by_cases g4 : v ≤ (n : Int)
      · have hx : scE s at0 v = 0 := by rw [scE, if_pos ⟨g1, by rw [hlen]; exact g2⟩, if_pos (mayV_true.2 ⟨g3, by rw [hnn]; exact g4⟩)]
        have hs5 := setcell_any at0 v wq HC.out.is
        rw [hx, if_pos rfl] at hs5
        obtain ⟨t, rfl⟩ := Int.eq_ofNat_of_zero_le g1
        have ht : t < nc := by omega
        have HS5 := Lib.hid hs5
        have i0 : (0 : Int) ≤ (t : Int) := Int.natCast_nonneg _
        clear hs5 hx
        go_wp2_with fail
        refine HS5.out.mono ?_
        rintro e W5' ⟨rfl, hT5⟩
        obtain ⟨d5, hC5, hh5, hr5⟩ := HC.out.step hT5 rfl (by show (s.ce.set _ _).length = _; rw [List.length_set]) rfl
        have hW5 := HW.out.step hh5 hr5
        have HC5' := Lib.hid hC5
        have HW5' := Lib.hid hW5
        have e4 := HC5'.out.box.b4
        rw [HNC.out] at e4
        have hrc := hW5.at_ t (by omega)
        have hrf := hW5.fz t (by omega)
        clear hC5 hh5 hr5 hT5 HS5 hW5 q4
        go_wp2_with fail
        generalize hW5 : World.setCell _ _ _ = W5
        have HC5 := Lib.hid (show Ce w W5 H d5 (scS s (t : Int) v) m d n nc by rw [← hW5]; exact HC5'.out.laid HW5'.out.no hRb _)
        have HW5 := Lib.hid (show Rw W5 H d5 Rb (scS s (t : Int) v).ce by rw [← hW5]; exact HW5'.out.lay (by omega) v)
        clear hrc hrf hW5 HC5' HW5'
        have e0 := HC5.out.box.b0
        have e4 := HC5.out.box.b4

        go_wp2_with fail
        have HM5 := Lib.hid (make_some (1 + (j : Int) % 3) ((j : Int) % 2) W5 HC5.out.is (HC5.out.tabs HT.out) (by omega))
        refine HM5.out.mono ?_
        rintro e w6 ⟨⟨u, rfl⟩, s6, e1, e2, e3, hT6⟩
        obtain ⟨d6, hC6, hh6, hr6⟩ := HC5.out.step hT6 e1 (by rw [e2]) e3
        have HC6 := Lib.hid hC6
        have HW6 := Lib.hid (show Rw w6 H d6 Rb s6.ce by rw [e2]; exact HW5.out.step hh6 hr6)
        clear hC6 hh6 hr6 hT6 e1 e2 e3 HM5 e0 e4
        have HM6 := Lib.hid (show m + 160 ≤ 200 * (j + 1) by omega)
        go_wp2_with fail
        go_loopw [13] (fun i wr => ∃ k : Nat, k ≤ nc ∧ i = .int .i64 (k : Int) ∧ Ce w wr H d6 s6 (m + 160) d n nc ∧ Rw wr H d6 Rb s6.ce) (fun i _ => nc - (intOf i).toNat)
        case atStart => exact ⟨0, Nat.zero_le _, rfl, HC6.out, HW6.out⟩
        case round =>
          obtain ⟨k, hk, rfl, hC7, hW7⟩ := hrel
          have HC7 := Lib.hid hC7
          have HW7 := Lib.hid hW7
          have c4 := hC7.box.b4
          rw [HNC.out] at c4
          have k0 : (0 : Int) ≤ (k : Int) := Int.natCast_nonneg _
          by_cases hkn : k < nc
          · have k1 : (k : Int) < (nc : Int) := by omega
            have hlen := hC7.hl
            have hce := cell_any (k : Int) wr hC7.is
            rw [cV, ccE, if_pos ⟨k0, by omega⟩, if_pos ⟨k0, by omega⟩, Int.toNat_natCast] at hce
            have HCE := Lib.hid hce
            have HAT := Lib.hid (hW7.at_ k (by omega))
            clear hC7 hW7 hce
            generalize s6.ce.getD k 0 = x at *
            go_wp2_with fail
            refine HCE.out.mono ?_
            rintro e w8 ⟨rfl, hb8⟩
            have HC8 := Lib.hid (HC7.out.later hb8)
            have HW8 := Lib.hid (HW7.out.step (dd' := d6) (Chg.of_below hb8) (fun _ e => .inl e))
            have hat8 := (hb8.cell (p := ⟨Rb, k, none⟩) HW7.out.lt).trans HAT.out
            clear hb8 c4
            have c4 := HC8.out.box.b4
            rw [HNC.out] at c4
            go_wp2
            go_roundw
            case rel => exact ⟨k + 1, by omega, by go_num, HC8.out, HW8.out⟩
            case measure => simp [intOf]; omega
          · obtain rfl : k = nc := by omega
            clear hC7 hW7
            go_wp2
            go_roundw
            case rel => exact ⟨j + 1, d6, s6, m + 160, by omega, by go_num, HM6.out, HC7.out, HW7.out⟩
            case measure => simp [intOf]; omega
      · 
        have hx : scE s at0 v ≠ 0 := by rw [scE, if_pos ⟨g1, by rw [hlen]; exact g2⟩, if_neg (fun e => by have := mayV_true.1 e; omega)]; decide
        have hs5 := setcell_any at0 v wq HC.out.is
        rw [if_neg hx] at hs5
        have hxb : ((scE s at0 v) == 0) = false := by simpa using hx
        have HS5 := Lib.hid hs5
        clear hs5 hx
        generalize scE s at0 v = f at *
        go_wp2_with fail
        refine HS5.out.mono ?_
        rintro e W5 ⟨rfl, hT5⟩
        obtain ⟨d5, hC5, hh5, hr5⟩ := HC.out.step hT5 rfl rfl rfl
        have HC5 := Lib.hid hC5
        have HW5 := Lib.hid (HW.out.step hh5 hr5)
        have e0 := HC5.out.box.b0
        have e4 := HC5.out.box.b4
        rw [HNC.out] at e4
        clear hC5 hh5 hr5 hT5 HS5 q4

        go_wp2_with fail
        have HM5 := Lib.hid (make_some (1 + (j : Int) % 3) ((j : Int) % 2) W5 HC5.out.is (HC5.out.tabs HT.out) (by omega))
        refine HM5.out.mono ?_
        rintro e w6 ⟨⟨u, rfl⟩, s6, e1, e2, e3, hT6⟩
        obtain ⟨d6, hC6, hh6, hr6⟩ := HC5.out.step hT6 e1 (by rw [e2]) e3
        have HC6 := Lib.hid hC6
        have HW6 := Lib.hid (show Rw w6 H d6 Rb s6.ce by rw [e2]; exact HW5.out.step hh6 hr6)
        clear hC6 hh6 hr6 hT6 e1 e2 e3 HM5 e0 e4
        have HM6 := Lib.hid (show m + 160 ≤ 200 * (j + 1) by omega)
        go_wp2_with fail
        go_loopw [13] (fun i wr => ∃ k : Nat, k ≤ nc ∧ i = .int .i64 (k : Int) ∧ Ce w wr H d6 s6 (m + 160) d n nc ∧ Rw wr H d6 Rb s6.ce) (fun i _ => nc - (intOf i).toNat)
        case atStart => exact ⟨0, Nat.zero_le _, rfl, HC6.out, HW6.out⟩
        case round =>
          obtain ⟨k, hk, rfl, hC7, hW7⟩ := hrel
          have HC7 := Lib.hid hC7
          have HW7 := Lib.hid hW7
          have c4 := hC7.box.b4
          rw [HNC.out] at c4
          have k0 : (0 : Int) ≤ (k : Int) := Int.natCast_nonneg _
          by_cases hkn : k < nc
          · have k1 : (k : Int) < (nc : Int) := by omega
            have hlen := hC7.hl
            have hce := cell_any (k : Int) wr hC7.is
            rw [cV, ccE, if_pos ⟨k0, by omega⟩, if_pos ⟨k0, by omega⟩, Int.toNat_natCast] at hce
            have HCE := Lib.hid hce
            have HAT := Lib.hid (hW7.at_ k (by omega))
            clear hC7 hW7 hce
            generalize s6.ce.getD k 0 = x at *
            go_wp2_with fail
            refine HCE.out.mono ?_
            rintro e w8 ⟨rfl, hb8⟩
            have HC8 := Lib.hid (HC7.out.later hb8)
            have HW8 := Lib.hid (HW7.out.step (dd' := d6) (Chg.of_below hb8) (fun _ e => .inl e))
            have hat8 := (hb8.cell (p := ⟨Rb, k, none⟩) HW7.out.lt).trans HAT.out
            clear hb8 c4
            have c4 := HC8.out.box.b4
            rw [HNC.out] at c4
            go_wp2
            go_roundw
            case rel => exact ⟨k + 1, by omega, by go_num, HC8.out, HW8.out⟩
            case measure => simp [intOf]; omega
          · obtain rfl : k = nc := by omega
            clear hC7 hW7
            go_wp2
            go_roundw
            case rel => exact ⟨j + 1, d6, s6, m + 160, by omega, by go_num, HM6.out, HC7.out, HW7.out⟩
            case measure => simp [intOf]; omega
      · 
        have hx : scE s at0 v ≠ 0 := by rw [scE, if_pos ⟨g1, by rw [hlen]; exact g2⟩, if_neg (fun e => by have := mayV_true.1 e; omega)]; decide
        have hs5 := setcell_any at0 v wq HC.out.is
        rw [if_neg hx] at hs5
        have hxb : ((scE s at0 v) == 0) = false := by simpa using hx
        have HS5 := Lib.hid hs5
        clear hs5 hx
        generalize scE s at0 v = f at *
        go_wp2_with fail
        refine HS5.out.mono ?_
        rintro e W5 ⟨rfl, hT5⟩
        obtain ⟨d5, hC5, hh5, hr5⟩ := HC.out.step hT5 rfl rfl rfl
        have HC5 := Lib.hid hC5
        have HW5 := Lib.hid (HW.out.step hh5 hr5)
        have e0 := HC5.out.box.b0
        have e4 := HC5.out.box.b4
        rw [HNC.out] at e4
        clear hC5 hh5 hr5 hT5 HS5 q4

        go_wp2_with fail
        have HM5 := Lib.hid (make_some (1 + (j : Int) % 3) ((j : Int) % 2) W5 HC5.out.is (HC5.out.tabs HT.out) (by omega))
        refine HM5.out.mono ?_
        rintro e w6 ⟨⟨u, rfl⟩, s6, e1, e2, e3, hT6⟩
        obtain ⟨d6, hC6, hh6, hr6⟩ := HC5.out.step hT6 e1 (by rw [e2]) e3
        have HC6 := Lib.hid hC6
        have HW6 := Lib.hid (show Rw w6 H d6 Rb s6.ce by rw [e2]; exact HW5.out.step hh6 hr6)
        clear hC6 hh6 hr6 hT6 e1 e2 e3 HM5 e0 e4
        have HM6 := Lib.hid (show m + 160 ≤ 200 * (j + 1) by omega)
        go_wp2_with fail
        go_loopw [13] (fun i wr => ∃ k : Nat, k ≤ nc ∧ i = .int .i64 (k : Int) ∧ Ce w wr H d6 s6 (m + 160) d n nc ∧ Rw wr H d6 Rb s6.ce) (fun i _ => nc - (intOf i).toNat)
        case atStart => exact ⟨0, Nat.zero_le _, rfl, HC6.out, HW6.out⟩
        case round =>
          obtain ⟨k, hk, rfl, hC7, hW7⟩ := hrel
          have HC7 := Lib.hid hC7
          have HW7 := Lib.hid hW7
          have c4 := hC7.box.b4
          rw [HNC.out] at c4
          have k0 : (0 : Int) ≤ (k : Int) := Int.natCast_nonneg _
          by_cases hkn : k < nc
          · have k1 : (k : Int) < (nc : Int) := by omega
            have hlen := hC7.hl
            have hce := cell_any (k : Int) wr hC7.is
            rw [cV, ccE, if_pos ⟨k0, by omega⟩, if_pos ⟨k0, by omega⟩, Int.toNat_natCast] at hce
            have HCE := Lib.hid hce
            have HAT := Lib.hid (hW7.at_ k (by omega))
            clear hC7 hW7 hce
            generalize s6.ce.getD k 0 = x at *
            go_wp2_with fail
            refine HCE.out.mono ?_
            rintro e w8 ⟨rfl, hb8⟩
            have HC8 := Lib.hid (HC7.out.later hb8)
            have HW8 := Lib.hid (HW7.out.step (dd' := d6) (Chg.of_below hb8) (fun _ e => .inl e))
            have hat8 := (hb8.cell (p := ⟨Rb, k, none⟩) HW7.out.lt).trans HAT.out
            clear hb8 c4
            have c4 := HC8.out.box.b4
            rw [HNC.out] at c4
            go_wp2
            go_roundw
            case rel => exact ⟨k + 1, by omega, by go_num, HC8.out, HW8.out⟩
            case measure => simp [intOf]; omega
          · obtain rfl : k = nc := by omega
            clear hC7 hW7
            go_wp2
            go_roundw
            case rel => exact ⟨j + 1, d6, s6, m + 160, by omega, by go_num, HM6.out, HC7.out, HW7.out⟩
            case measure => simp [intOf]; omega
      · 
        have hx : scE s at0 v ≠ 0 := by rw [scE, if_neg (fun e => by omega)]; decide
        have hs5 := setcell_any at0 v wq HC.out.is
        rw [if_neg hx] at hs5
        have hxb : ((scE s at0 v) == 0) = false := by simpa using hx
        have HS5 := Lib.hid hs5
        clear hs5 hx
        generalize scE s at0 v = f at *
        go_wp2_with fail
        refine HS5.out.mono ?_
        rintro e W5 ⟨rfl, hT5⟩
        obtain ⟨d5, hC5, hh5, hr5⟩ := HC.out.step hT5 rfl rfl rfl
        have HC5 := Lib.hid hC5
        have HW5 := Lib.hid (HW.out.step hh5 hr5)
        have e0 := HC5.out.box.b0
        have e4 := HC5.out.box.b4
        rw [HNC.out] at e4
        clear hC5 hh5 hr5 hT5 HS5 q4

        go_wp2_with fail
        have HM5 := Lib.hid (make_some (1 + (j : Int) % 3) ((j : Int) % 2) W5 HC5.out.is (HC5.out.tabs HT.out) (by omega))
        refine HM5.out.mono ?_
        rintro e w6 ⟨⟨u, rfl⟩, s6, e1, e2, e3, hT6⟩
        obtain ⟨d6, hC6, hh6, hr6⟩ := HC5.out.step hT6 e1 (by rw [e2]) e3
        have HC6 := Lib.hid hC6
        have HW6 := Lib.hid (show Rw w6 H d6 Rb s6.ce by rw [e2]; exact HW5.out.step hh6 hr6)
        clear hC6 hh6 hr6 hT6 e1 e2 e3 HM5 e0 e4
        have HM6 := Lib.hid (show m + 160 ≤ 200 * (j + 1) by omega)
        go_wp2_with fail
        go_loopw [13] (fun i wr => ∃ k : Nat, k ≤ nc ∧ i = .int .i64 (k : Int) ∧ Ce w wr H d6 s6 (m + 160) d n nc ∧ Rw wr H d6 Rb s6.ce) (fun i _ => nc - (intOf i).toNat)
        case atStart => exact ⟨0, Nat.zero_le _, rfl, HC6.out, HW6.out⟩
        case round =>
          obtain ⟨k, hk, rfl, hC7, hW7⟩ := hrel
          have HC7 := Lib.hid hC7
          have HW7 := Lib.hid hW7
          have c4 := hC7.box.b4
          rw [HNC.out] at c4
          have k0 : (0 : Int) ≤ (k : Int) := Int.natCast_nonneg _
          by_cases hkn : k < nc
          · have k1 : (k : Int) < (nc : Int) := by omega
            have hlen := hC7.hl
            have hce := cell_any (k : Int) wr hC7.is
            rw [cV, ccE, if_pos ⟨k0, by omega⟩, if_pos ⟨k0, by omega⟩, Int.toNat_natCast] at hce
            have HCE := Lib.hid hce
            have HAT := Lib.hid (hW7.at_ k (by omega))
            clear hC7 hW7 hce
            generalize s6.ce.getD k 0 = x at *
            go_wp2_with fail
            refine HCE.out.mono ?_
            rintro e w8 ⟨rfl, hb8⟩
            have HC8 := Lib.hid (HC7.out.later hb8)
            have HW8 := Lib.hid (HW7.out.step (dd' := d6) (Chg.of_below hb8) (fun _ e => .inl e))
            have hat8 := (hb8.cell (p := ⟨Rb, k, none⟩) HW7.out.lt).trans HAT.out
            clear hb8 c4
            have c4 := HC8.out.box.b4
            rw [HNC.out] at c4
            go_wp2
            go_roundw
            case rel => exact ⟨k + 1, by omega, by go_num, HC8.out, HW8.out⟩
            case measure => simp [intOf]; omega
          · obtain rfl : k = nc := by omega
            clear hC7 hW7
            go_wp2
            go_roundw
            case rel => exact ⟨j + 1, d6, s6, m + 160, by omega, by go_num, HM6.out, HC7.out, HW7.out⟩
            case measure => simp [intOf]; omega
      · 
        have hx : scE s at0 v ≠ 0 := by rw [scE, if_neg (fun e => by omega)]; decide
        have hs5 := setcell_any at0 v wq HC.out.is
        rw [if_neg hx] at hs5
        have hxb : ((scE s at0 v) == 0) = false := by simpa using hx
        have HS5 := Lib.hid hs5
        clear hs5 hx
        generalize scE s at0 v = f at *
        go_wp2_with fail
        refine HS5.out.mono ?_
        rintro e W5 ⟨rfl, hT5⟩
        obtain ⟨d5, hC5, hh5, hr5⟩ := HC.out.step hT5 rfl rfl rfl
        have HC5 := Lib.hid hC5
        have HW5 := Lib.hid (HW.out.step hh5 hr5)
        have e0 := HC5.out.box.b0
        have e4 := HC5.out.box.b4
        rw [HNC.out] at e4
        clear hC5 hh5 hr5 hT5 HS5 q4

        go_wp2_with fail
        have HM5 := Lib.hid (make_some (1 + (j : Int) % 3) ((j : Int) % 2) W5 HC5.out.is (HC5.out.tabs HT.out) (by omega))
        refine HM5.out.mono ?_
        rintro e w6 ⟨⟨u, rfl⟩, s6, e1, e2, e3, hT6⟩
        obtain ⟨d6, hC6, hh6, hr6⟩ := HC5.out.step hT6 e1 (by rw [e2]) e3
        have HC6 := Lib.hid hC6
        have HW6 := Lib.hid (show Rw w6 H d6 Rb s6.ce by rw [e2]; exact HW5.out.step hh6 hr6)
        clear hC6 hh6 hr6 hT6 e1 e2 e3 HM5 e0 e4
        have HM6 := Lib.hid (show m + 160 ≤ 200 * (j + 1) by omega)
        go_wp2_with fail
        go_loopw [13] (fun i wr => ∃ k : Nat, k ≤ nc ∧ i = .int .i64 (k : Int) ∧ Ce w wr H d6 s6 (m + 160) d n nc ∧ Rw wr H d6 Rb s6.ce) (fun i _ => nc - (intOf i).toNat)
        case atStart => exact ⟨0, Nat.zero_le _, rfl, HC6.out, HW6.out⟩
        case round =>
          obtain ⟨k, hk, rfl, hC7, hW7⟩ := hrel
          have HC7 := Lib.hid hC7
          have HW7 := Lib.hid hW7
          have c4 := hC7.box.b4
          rw [HNC.out] at c4
          have k0 : (0 : Int) ≤ (k : Int) := Int.natCast_nonneg _
          by_cases hkn : k < nc
          · have k1 : (k : Int) < (nc : Int) := by omega
            have hlen := hC7.hl
            have hce := cell_any (k : Int) wr hC7.is
            rw [cV, ccE, if_pos ⟨k0, by omega⟩, if_pos ⟨k0, by omega⟩, Int.toNat_natCast] at hce
            have HCE := Lib.hid hce
            have HAT := Lib.hid (hW7.at_ k (by omega))
            clear hC7 hW7 hce
            generalize s6.ce.getD k 0 = x at *
            go_wp2_with fail
            refine HCE.out.mono ?_
            rintro e w8 ⟨rfl, hb8⟩
            have HC8 := Lib.hid (HC7.out.later hb8)
            have HW8 := Lib.hid (HW7.out.step (dd' := d6) (Chg.of_below hb8) (fun _ e => .inl e))
            have hat8 := (hb8.cell (p := ⟨Rb, k, none⟩) HW7.out.lt).trans HAT.out
            clear hb8 c4
            have c4 := HC8.out.box.b4
            rw [HNC.out] at c4
            go_wp2
            go_roundw
            case rel => exact ⟨k + 1, by omega, by go_num, HC8.out, HW8.out⟩
            case measure => simp [intOf]; omega
          · obtain rfl : k = nc := by omega
            clear hC7 hW7
            go_wp2
            go_roundw
            case rel => exact ⟨j + 1, d6, s6, m + 160, by omega, by go_num, HM6.out, HC7.out, HW7.out⟩
            case measure => simp [intOf]; omega
    · obtain rfl : j = zb.length := by omega
      clear hC hW
      go_wp2
      go_ret
      exact ⟨rfl, HC.out.bel⟩
end Go.Proofs.YtcoolapancdioaaDoor.Hp
