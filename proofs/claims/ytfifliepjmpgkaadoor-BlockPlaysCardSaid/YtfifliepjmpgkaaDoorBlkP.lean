/-
  The law BlockPlays answers true, for every config, row of classes and address.
-/
import Derived.Test.YtfifliepjmpgkaaDoorBlkO
namespace Go.Proofs.YtfifliepjmpgkaaDoor.Blk
open Go.RowKit Go.Shelf
open Go.Proofs.YtfifliepjmpgkaaDoor.Addr (Tabs ListP adrB adrB_true finB finB_true offI)
open Class (isB isB_true isB_false sizI perI refis_any)

/-- The config's box, behind whatever is laid. -/
abbrev Box7 (W : World) (S : Nat) (d : Cfg) : Prop := W.cell? ⟨S, 0, none⟩ = some (.int .i64 d.b) ∧ W.cell? ⟨S, 1, none⟩ = some (.int .i64 d.wd) ∧ W.cell? ⟨S, 2, none⟩ = some (.int .i64 d.m) ∧ W.cell? ⟨S, 3, none⟩ = some (.int .i64 d.r)
  ∧ W.cell? ⟨S, 4, none⟩ = some (.int .i64 d.ce) ∧ W.cell? ⟨S, 5, none⟩ = some (.int .i64 d.lg) ∧ W.cell? ⟨S, 6, none⟩ = some (.int .i64 d.st)
theorem BoxIs.seven {W : World} {S : Nat} {d : Cfg} (h : BoxIs W S d) : Box7 W S d := ⟨h.b0, h.b1, h.b2, h.b3, h.b4, h.b5, h.b6⟩

set_option maxRecDepth 100000 in
set_option maxHeartbeats 8000000 in
theorem plays_walk (c : Cfg) (pa : Option Addr) (ca : Nat) (za : List Int) (a : Int) (w : World) (ht : Tabs w) (ha : ListP w.heap.size w pa za) :
    Calls Tryd.prog 3 #[(.agg #[.int .i64 c.b, .int .i64 c.wd, .int .i64 c.m, .int .i64 c.r, .int .i64 c.ce, .int .i64 c.lg, .int .i64 c.st]), .slice pa za.length ca, .int .i64 a] w fun e w' => e = .returned (.bool true) ∧ Below w.heap.size w w' := by
  obtain ⟨i0, hinf, hz0, hz1, hz2⟩ := info_parts infoInt
  have HT := Lib.hid ht
  have HA := Lib.hid ha
  have HR := Lib.hid (little_right c)
  obtain ⟨hb0, hb1⟩ := little_b c
  clear ht ha
  go_enter Tryd.func3, Tryd.ntmps3
  go_wp2_with fail
  refine (little_any c _).mono ?_
  rintro e w1 ⟨rfl, hb⟩
  have HW := Lib.hid (fun W2 hW => box7 (d := little c) (W2 := W2) (by simpa using hb) hW)
  obtain ⟨hc1, hf1⟩ := bcell hb
  have hz1' : w.heap.size < w1.heap.size := by have := hb.size; simp at this; omega
  clear hb
  generalize hL : little c = d at *
  by_cases hbig : 30 < za.length
  · have h1 : (30 : Int) < (za.length : Int) := by omega
    go_wp2_with fail
    generalize hW : World.setCell _ _ _ = W2
    obtain ⟨hbox, hb2⟩ := HW.out W2 hW
    refine (awake_any _ (HT.out.later hb2)).mono ?_
    rintro e w3 ⟨rfl, hb3⟩
    have HF := Lib.hid (hb2.trans (hb3.mono hb2.size))
    clear hW HW hc1 hf1 hz1' hb2 hbox hb3
    go_wp2
    go_ret
    exact ⟨rfl, HF.out⟩
  have h1 : (za.length : Int) ≤ 30 := by omega
  have hd1 : decide ((30 : Int) < (za.length : Int)) = false := by simpa using h1
  go_wp2_with fail
  generalize hW : World.setCell _ _ _ = W2
  obtain ⟨hbox, hb2⟩ := HW.out W2 hW
  clear hW HW hc1 hf1 hz1'
  have HT2 := Lib.hid (HT.out.later hb2)
  have HB2 := Lib.hid hb2
  have HX2 := Lib.hid hbox
  clear hb2 hbox
  refine (new_good d _ HT2.out.lim HR.out).mono ?_
  rintro e w3 ⟨B, rfl, h3, hb3⟩
  have HS3 := Lib.hid h3
  have HB3 := Lib.hid hb3
  have hwx : w.heap.size < w3.heap.size := Nat.lt_of_lt_of_le HX2.out.lt hb3.size
  have hbx3 := HX2.out.later hb3
  have HCF := Lib.hid (fun (W : World) (h : Below w3.heap.size w3 W) => config_any W (HS3.out.later h))
  have HKP := Lib.hid (fun (W : World) (h : Below w3.heap.size w3 W) => (⟨h, (hbx3.below h hwx).seven⟩ : Below w3.heap.size w3 W ∧ Box7 W w.heap.size d))
  have HK0 := Lib.hid (HKP.out _ (below_drew (Below.refl _ w3)))
  have HK2 := Lib.hid (fun (wc W : World) (hb : Below wc.heap.size wc W) (h : Below w3.heap.size w3 wc ∧ Box7 wc w.heap.size d) => HKP.out W (h.1.trans (hb.mono h.1.size)))
  have hgd := guardCfg
  have hne := guard_ne d.b d.wd d.m d.r d.ce d.lg d.st
  clear h3 hb3 hbx3
  go_wp2_with fail
  go_region_held3 (fun W => Below w3.heap.size w3 W ∧ Box7 W w.heap.size d)
    (first | exact HK0.out | assumption | exact HK2.out _ _ hb8 (by assumption))
    (first
      | (go_at_call 13; refine (HCF.out _ (And.left (by assumption))).mono ?_; rintro e w8 ⟨rfl, hb8⟩))
  have hS8 : Below w3.heap.size w3 w8 := (show Below w3.heap.size w3 w8 ∧ Box7 w8 w.heap.size d by assumption).1
  have HSX := Lib.hid (HS3.out.later hS8)
  have HBX := Lib.hid (HB3.out.trans (hS8.mono HB3.out.size))
  clear hb8 hS8 hne hgd
  obtain ⟨nb, hnb⟩ : ∃ n : Nat, d.b = (n : Int) := ⟨d.b.toNat, by omega⟩
  have HNB := Lib.hid hnb
  have hnb4 : nb ≤ 4 := by omega
  clear hnb
  go_wp2_with fail
  go_loopw [9, 10] (fun hv i wr => ∃ (m : Nat) (ks : List Nat) (p : Option Addr) (cap : Nat) (q : Option Addr) (cq : Nat), m ≤ za.length ∧ i = .int .i64 (m : Int) ∧ hv = .slice q ks.length cq ∧ ks.length ≤ nb ∧ TbIs wr B W2.heap.size d ks p cap ∧ wr.ownsRow W2.heap.size 3 1 (.slice q ks.length cq) ks.length (cellsK ks) ∧ Apart q p ∧ ¬ rowB q B ∧ Below W2.heap.size W2 wr) (fun _ i _ => za.length - (intOf i).toNat)
  case atStart => exact ⟨0, [], none, 0, none, 0, Nat.zero_le _, rfl, rfl, Nat.zero_le _, HSX.out, ⟨rfl, .inl ⟨rfl, rfl⟩⟩, (fun k hk => by cases hk), (fun e => by cases e), HBX.out⟩
  case round =>
    obtain ⟨m, ks, p, cap, q, cq, hm, rfl, rfl, hkn, hS, hH, hAp, hqB, hB⟩ := hrel
    have HS := Lib.hid hS
    have HH := Lib.hid hH
    have HAP := Lib.hid hAp
    have HQB := Lib.hid hqB
    have HB := Lib.hid hB
    have k0 := (HX2.out.later hB).b0
    clear hS hH hAp hqB hB
    by_cases hlt : m < za.length
    · obtain ⟨b, off, rfl, hbS, hcx⟩ := (HA.out.below (HB2.out.trans (HB.out.mono HB2.out.size))) m hlt
      have i1 : (0 : Int) ≤ (m : Int) := Int.natCast_nonneg _
      have i2 : (m : Int) < (za.length : Int) := by omega
      generalize hzz : za[m]?.getD 0 = z at *
      rcases hz : isB z with _ | _
      · go_wp2_with fail
        refine (assign_bad z _ HS.out hz).mono ?_
        rintro e w5 ⟨rfl, rfl⟩
        go_wp2_with (go_at_call 15; refine (refis_any _ _).mono ?_; rintro e w' ⟨rfl, rfl⟩; rw [hz])
        go_roundw
        case rel => exact ⟨m + 1, ks, p, cap, q, cq, by omega, by go_num, rfl, hkn, HS.out, HH.out, HAP.out, HQB.out, HB.out⟩
        case measure => simp [intOf]; omega
      · obtain ⟨z0, z1⟩ := isB_true.1 hz
        obtain ⟨k, rfl⟩ : ∃ k : Nat, z = (k : Int) := ⟨z.toNat, by omega⟩
        have hk4 : k < 4 := by omega
        by_cases hfl : ks.length < nb
        · have hfd : (ks.length : Int) < d.b := by have := HNB.out; omega
          have hfe : ((ks.length : Int) == d.b) = false := by have := HNB.out; simp; omega
          go_wp2_with fail
          refine (assign_goodZ _ k rfl _ HS.out hk4 hfd (by omega) HB.out.size).mono ?_
          rintro e w5 ⟨rfl, p5, cap5, h5, hc5, hr5⟩
          have HS5 := Lib.hid h5
          have HH5 := Lib.hid (owns_chg HH.out hc5 (fun g hg e => e.elim (fun e => HQB.out (e ▸ hg)) (HAP.out g hg)))
          have hb5 := HB.out.trans (hc5.below (fun i hi => hi.elim (fun e => by rw [e]; exact HS.out.base) (fun e => (HS.out.ltG e).1)) HB.out.size)
          have HB5 := Lib.hid hb5
          have q0 := (HX2.out.later hb5).b0
          have hcx5 : w5.cell? ⟨b, off + m, none⟩ = some (.int .i64 (k : Int)) := by
            have hbw : Below w.heap.size wr w5 := (hc5.below (fun i hi => by have h1 := HB2.out.size; have h2 := HS.out.base; rcases hi with e | e; (· rw [e]; omega); (· have := (HS.out.ltG e).1; omega)) (Nat.le_trans HB2.out.size HB.out.size))
            exact (hbw.cell (p := ⟨b, off + m, none⟩) hbS).trans hcx
          have HAP5 := Lib.hid (show Apart q p5 from fun g hg e => (hr5 g e).elim (HAP.out g hg) (fun h => by have := (owns_lt HH.out hg).2; omega))
          clear h5 hc5 hr5 hb5
          go_wp2_with (first
            | (go_at_call 15; refine (refis_any _ _).mono ?_; rintro e w' ⟨rfl, rfl⟩; rw [hz])
            | (at_builtin; refine wpList_append_own_at _ rfl _ _ 24 rfl W2.heap.size 3 i0 (.int .i64 0) 1 8 Tryd.underlying24 hinf hz0 hz1 hz2 rfl (by decide) _ _ _ rfl (HH5.out.alloc _) ⟨w5.heap.size, 0, none⟩ 1 1 [.int .i64 (k : Int)] rfl rfl (one_at rfl) (by simp [Value.oneCell']) (by unfold maxLen; omega) (by omega) (by have := HB5.out.size; simp; omega) ?_))
          intro v' w6 hown hgrow _ hat
          obtain ⟨q', cq', rfl, hC, hR6⟩ := push_row (Y := w5) (p := q) (cap := cq) ((Below.refl _ w5).alloc (Nat.le_refl _) _) hown hgrow (by simpa using hat)
          have hS6 := HS5.out.chg2 hC HQB.out (fun g hg e => HAP5.out g e hg)
          have hA6 : Apart q' p5 := fun g hg e => (hR6 g hg).elim (fun h => HAP5.out g h e) (fun h => by have := (HS5.out.ltG e).2; omega)
          have hQ6 : ¬ rowB q' B := fun e => (hR6 B e).elim HQB.out (fun h => by have := HS5.out.ltB; omega)
          have hB6 := HB5.out.trans (hC.below (fun i hi => (owns_lt HH5.out hi).1) HB5.out.size)
          have HF := Lib.hid (And.intro hS6 (And.intro hown (And.intro hA6 (And.intro hQ6 hB6))))
          clear hown hgrow hat hC hR6 hS6 hA6 hQ6 hB6
          go_wp2
          go_roundw
          case rel => exact ⟨m + 1, ks ++ [k], p5, cap5, q', cq', by omega, by go_num, by simp, by simp; omega, HF.out.1, by rw [cellsK_snoc, List.length_append]; exact HF.out.2.1, HF.out.2.2.1, HF.out.2.2.2.1, HF.out.2.2.2.2⟩
          case measure => simp [intOf]; omega
        · have hfd : (ks.length : Int) = d.b := by have := HNB.out; omega
          go_wp2_with fail
          refine (assign_full _ _ HS.out hz hfd).mono ?_
          rintro e w5 ⟨rfl, n5, rfl⟩
          have hfe : ((ks.length : Int) == d.b) = true := by simp; omega
          clear hfd
          go_wp2_with (go_at_call 15; refine (refis_any _ _).mono ?_; rintro e w' ⟨rfl, rfl⟩; rw [hz])
          go_roundw
          case rel => exact ⟨m + 1, ks, p, cap, q, cq, by omega, by go_num, rfl, hkn, HS.out.drewN _, owns_block HH.out (fun _ _ => rfl), HAP.out, HQB.out, below_drewN HB.out _⟩
          case measure => simp [intOf]; omega
    · obtain rfl : m = za.length := by omega
      generalize wr = wx at *
      have h4 : ∀ j, kAt ks j < 4 := HS.out.kLt
      have H4 := Lib.hid h4
      have hkd : (ks.length : Int) ≤ d.b := by have := HNB.out; omega
      have hk4 : ks.length ≤ 4 := by omega
      clear h4 k0
      go_wp2_with fail
      go_loopw [13, 14, 15, 16, 17, 18] (fun av lv ov kv iv bv wr => ∃ (b : Nat) (pl : Option Addr) (cl : Nat) (pr : Option Addr) (cr : Nat), b ≤ nb ∧ bv = .int .i64 (b : Int) ∧ av = .slice pl (allP d ks (min b ks.length)).length cl ∧ wr.ownsRow wx.heap.size 3 1 (.slice pl (allP d ks (min b ks.length)).length cl) (allP d ks (min b ks.length)).length (cellsI (allP d ks (min b ks.length)))
          ∧ lv = .slice pr (pick (fun j => decide (ks.length ≤ j)) b).length cr ∧ wr.ownsRow wx.heap.size 3 1 (.slice pr (pick (fun j => decide (ks.length ≤ j)) b).length cr) (pick (fun j => decide (ks.length ≤ j)) b).length (cellsK (pick (fun j => decide (ks.length ≤ j)) b)) ∧ Apart pl pr
          ∧ ov = .int .i64 (upN d ks a b) ∧ kv = .int .i64 (upK d ks a b) ∧ iv = .bool (upB d ks a b) ∧ Below wx.heap.size wx wr) (fun _ _ _ _ _ bv _ => nb - (intOf bv).toNat)
      case atStart =>
        obtain ⟨e1, e2, e3⟩ := up_zero d ks a
        exact ⟨0, none, 0, none, 0, Nat.zero_le _, rfl, by simp [allP], ⟨by simp [allP, cellsI], .inl ⟨by simp [allP], by simp [allP]⟩⟩, by simp [pick], ⟨by simp [pick, cellsK], .inl ⟨by simp [pick], by simp [pick]⟩⟩, (fun k hk => by cases hk), (by rw [e1]; rfl), (by rw [e2]; rfl), (by rw [e3]), Below.refl _ _⟩
      case round =>
        obtain ⟨b, pl, cl, pr, cr, hbn, rfl, rfl, hal, rfl, hle, hap, rfl, rfl, rfl, hbb⟩ := hrel
        have HSB := Lib.hid (HS.out.later hbb)
        have HHB := Lib.hid (owns_block HH.out (fun g hg => hbb.block g (owns_lt HH.out hg).2))
        have HBW := Lib.hid (HB.out.trans (hbb.mono HB.out.size))
        have HBX := Lib.hid hbb
        have HAL := Lib.hid hal
        have HLE := Lib.hid hle
        have HAPL := Lib.hid hap
        have hbox := HX2.out.later (HB.out.trans (hbb.mono HB.out.size))
        have q0 := hbox.b0
        have hwx2 : w.heap.size < wr.heap.size := Nat.lt_of_lt_of_le HX2.out.lt (HB.out.trans (hbb.mono HB.out.size)).size
        have HSV := Lib.hid hbox
        have halen := allP_len d ks (min b ks.length)
        have hplen := pick_len (fun j => decide (ks.length ≤ j)) b
        clear hal hle hap hbb hbox
        by_cases hlb : b < nb
        · have hbd : (b : Int) < d.b := by have := HNB.out; omega
          by_cases hbk : b < ks.length
          · obtain ⟨gq, rfl⟩ : ∃ g, q = some ⟨g, 0, none⟩ := by
              obtain ⟨_, ⟨_, h0⟩ | ⟨g, c', cur, e1, _⟩⟩ := HH.out
              · omega
              · cases e1; exact ⟨g, rfl⟩
            have hgq : gq < wr.heap.size := (owns_lt HHB.out rfl).2
            have hcq := owns_cell HHB.out b (.int .i64 ((kAt ks b : Nat) : Int)) (by simp [cellsK, kAt, List.getD_eq_getElem?_getD, hbk])
            have i1 : (0 : Int) ≤ (b : Int) := Int.natCast_nonneg _
            have i2 : (b : Int) < (ks.length : Int) := by omega
            have hnge : ¬ (ks.length : Int) ≤ (b : Int) := by omega
            go_wp2_with fail
            refine (class_in b _ HSB.out hbk).mono ?_
            rintro e w5 ⟨rfl, hw5⟩
            rw [← hw5]
            clear hw5
            have hN1 := perN_pos HR.out (H4.out b)
            have hN128 := perN_le d (kAt ks b)
            have HPN := Lib.hid (perN_eq d (kAt ks b))
            have HRS := Lib.hid (fun (W : World) => refslots_any d b (kAt ks b) W HR.out hbd (H4.out b))
            have hSQ : Below wr.heap.size wr wr := Below.refl _ _
            have HJP := Lib.hid (fun (W : World) (h : Below wr.heap.size wr W) => (⟨h, (HSV.out.below h hwx2).seven, (h.cell (p := ⟨gq, b, none⟩) hgq).trans hcq⟩ : Below wr.heap.size wr W ∧ Box7 W w.heap.size d ∧ W.cell? ⟨gq, b, none⟩ = some (.int .i64 (kAt ks b))))
            have HJ0 := Lib.hid (HJP.out _ (below_drew (Below.refl _ wr)))
            have HJ2 := Lib.hid (fun (wc W : World) (hb : Below wc.heap.size wc W) (h : Below wr.heap.size wr wc ∧ Box7 wc w.heap.size d ∧ wc.cell? ⟨gq, b, none⟩ = some (.int .i64 (kAt ks b))) => HJP.out W (h.1.trans (hb.mono h.1.size)))
            have HSG := Lib.hid (mem_seg (a := a) HR.out hbk hbd (H4.out b))
            have HAS := Lib.hid (show allP d ks (min (b + 1) ks.length) = allP d ks (min b ks.length) ++ seg d ks b by rw [show min (b + 1) ks.length = b + 1 from by omega, show min b ks.length = b from by omega, allP_succ])
            have HPS := Lib.hid (show pick (fun j => decide (ks.length ≤ j)) (b + 1) = pick (fun j => decide (ks.length ≤ j)) b from pick_no (by simpa using hbk))
            generalize hNN : perN d (kAt ks b) = N at *
            clear hSQ
            go_wp2_with fail
            go_region_held3 (fun W => Below wr.heap.size wr W ∧ Box7 W w.heap.size d ∧ W.cell? ⟨gq, b, none⟩ = some (.int .i64 (kAt ks b)))
              (first | exact HJ0.out | assumption | exact HJ2.out _ _ hb8 (by assumption))
              (first
                | (go_at_call 18; refine (HRS.out _).mono ?_; rintro e w8 ⟨p8, cap8, rfl, ho8, hb8⟩))
            have hS8 : Below wr.heap.size wr w8 := (show Below wr.heap.size wr w8 ∧ Box7 w8 w.heap.size d ∧ w8.cell? ⟨gq, b, none⟩ = some (.int .i64 (kAt ks b)) by assumption).1
            have hcq8 := (hS8.cell (p := ⟨gq, b, none⟩) hgq).trans hcq
            have HS8 := Lib.hid (HSB.out.later hS8)
            have HB8 := Lib.hid hS8
            have HO8 := Lib.hid ho8
            obtain ⟨g8, rfl⟩ : ∃ g, p8 = some ⟨g, 0, none⟩ := by
              obtain ⟨_, ⟨_, h0⟩ | ⟨g, c', cur, e1, _⟩⟩ := ho8
              · omega
              · cases e1; exact ⟨g, rfl⟩
            clear hb8 hS8 ho8
            have hsl : ((List.range N).map (adr d (kAt ks b) b)).length = N := by simp
            go_wp2_with fail
            refine (slots_in _ HS8.out HR.out hbk hbd HPN.out hN1 (HT2.out.later (HBW.out.trans (HB8.out.mono HBW.out.size)))).mono ?_
            rintro e w9 ⟨p9, cap9, rfl, ho9, hb9⟩
            have HO9 := Lib.hid ho9
            have HO89 := Lib.hid (owns_block HO8.out (fun g hg => hb9.block g (owns_lt HO8.out hg).2))
            have HS9 := Lib.hid (HS8.out.later hb9)
            have HB9 := Lib.hid (HB8.out.trans (hb9.mono HB8.out.size))
            clear ho9 hb9
            go_wp2_with fail
            refine (same_n _ _ _ _ N _ hsl _ (listP_F _ HO9.out) (listP_F _ HO89.out) (by omega)).mono ?_
            rintro e w10 ⟨rfl, n10, rfl⟩
            go_wp2_with fail
            refine (of_any _ _ (HS9.out.drewN n10) (by omega) (by omega)).mono ?_
            rintro e w11 ⟨p11, cap11, rfl, ho11, hb11⟩
            have hb11' : Below w9.heap.size w9 w11 := ⟨hb11.os, hb11.tape, hb11.output, hb11.size, hb11.block⟩
            have HO8B := Lib.hid (owns_block HO89.out (fun g hg => hb11'.block g (owns_lt HO89.out hg).2))
            have HO11 := Lib.hid ho11
            have HB11 := Lib.hid (HB9.out.trans (hb11'.mono HB9.out.size))
            have holen : (ofK d ks (kAt ks b)).length ≤ 4 := by have := pick_len (isOf ks (kAt ks b)) d.b.toNat; unfold ofK; have := HNB.out; omega
            have hmem : decide (((b : Nat) : Int) ∈ (ofK d ks (kAt ks b)).map (fun x => ((x : Nat) : Int))) = true := by
              rw [decide_eq_true_eq]
              exact List.mem_map.2 ⟨b, (mem_pick _ _ _).2 ⟨by have := HNB.out; omega, by simp [isOf, hbk]⟩, rfl⟩
            have HMEM := Lib.hid hmem
            clear ho11 hb11 hb11' hmem
            go_wp2_with fail
            refine (in_n _ _ _ ((ofK d ks (kAt ks b)).map (fun x => ((x : Nat) : Int))) _ (by simp) _ (listP_K _ HO11.out) (by omega)).mono ?_
            rintro e w12 ⟨rfl, hw12⟩
            rw [← hw12, HMEM.out]
            clear hw12 holen
            go_wp2_with fail
            refine (in_n _ _ _ _ a hsl _ (listP_F _ HO8B.out) (by omega)).mono ?_
            rintro e w13 ⟨rfl, hw13⟩
            rw [← hw13]
            clear hw13
            have hseg : (List.range N).map (adr d (kAt ks b) b) = seg d ks b := by unfold seg; rw [hNN]
            have HC8 := Lib.hid (fun (j : Nat) (u : Value) (hu : (cellsF (adr d (kAt ks b) b) N)[j]? = some u) => (show w11.cell? ((⟨g8, 0, none⟩ : Addr).add j) = some u by
              rw [Addr.add_lit, Nat.zero_add]; exact owns_cell HO8B.out j u hu))
            have HAL11 := Lib.hid (owns_block HAL.out (fun g hg => HB11.out.block g (owns_lt HAL.out hg).2))
            have HLE11 := Lib.hid (owns_block HLE.out (fun g hg => HB11.out.block g (owns_lt HLE.out hg).2))
            have hwl : wx.heap.size ≤ w11.heap.size := Nat.le_trans HBX.out.size HB11.out.size
            have HLN := Lib.hid (show (allP d ks (min (b + 1) ks.length)).length = (allP d ks (min b ks.length)).length + N by rw [HAS.out, List.length_append, seg_length, hNN])
            rw [hseg]
            clear hseg
            by_cases hmm : a ∈ seg d ks b
            · rw [decide_eq_true hmm]
              have HUP := Lib.hid (up_yes (HSG.out.1 hmm))
              clear hmm
              go_wp2_with (at_builtin; refine wpList_append_own_at _ rfl _ _ 24 rfl wx.heap.size 3 i0 (.int .i64 0) 1 8 Tryd.underlying24 hinf hz0 hz1 hz2 rfl (by decide) _ _ _ rfl HAL11.out ⟨g8, 0, none⟩ N cap8 (cellsF (adr d (kAt ks b) b) N) rfl (by simp [cellsF]) HC8.out (fun u hu => by obtain ⟨x, _, rfl⟩ := List.mem_map.1 hu; rfl) (by unfold maxLen; omega) (by omega) hwl ?_)
              intro v' w14 hown hgrow _ hat
              obtain ⟨p14, cap14, rfl, hC, hR14⟩ := push_row (Y := w11) (p := pl) (cap := cl) (Below.refl _ w11) hown hgrow hat
              have hB14 : Below wx.heap.size w11 w14 := hC.below (fun i hi => (owns_lt HAL11.out hi).1) hwl
              have HBX14 := Lib.hid ((HBX.out.trans (HB11.out.mono HBX.out.size)).trans hB14)
              have HLE14 := Lib.hid (owns_chg HLE11.out hC (fun g hg e => HAPL.out g e hg))
              have HAP14 := Lib.hid (show Apart p14 pr from fun g hg e => (hR14 g hg).elim (fun h => HAPL.out g h e) (fun h => by have := (owns_lt HLE11.out e).2; omega))
              have HO14 := Lib.hid hown
              clear hown hgrow hat hC hR14 hB14
              go_wp2
              go_roundw
              case rel => exact ⟨b + 1, p14, cap14, pr, cr, by omega, by go_num, by rw [HLN.out], by rw [HLN.out, HAS.out, cellsI_app, ← cellsI_seg, hNN]; exact HO14.out, by rw [HPS.out], by rw [HPS.out]; exact HLE14.out, HAP14.out, by rw [HUP.out.1], by rw [HUP.out.2.1], by rw [HUP.out.2.2], HBX14.out⟩
              case measure => simp [intOf]; omega
            · rw [decide_eq_false hmm]
              have HUP := Lib.hid (up_no (fun e => hmm (HSG.out.2 e)))
              clear hmm
              go_wp2_with (at_builtin; refine wpList_append_own_at _ rfl _ _ 24 rfl wx.heap.size 3 i0 (.int .i64 0) 1 8 Tryd.underlying24 hinf hz0 hz1 hz2 rfl (by decide) _ _ _ rfl HAL11.out ⟨g8, 0, none⟩ N cap8 (cellsF (adr d (kAt ks b) b) N) rfl (by simp [cellsF]) HC8.out (fun u hu => by obtain ⟨x, _, rfl⟩ := List.mem_map.1 hu; rfl) (by unfold maxLen; omega) (by omega) hwl ?_)
              intro v' w14 hown hgrow _ hat
              obtain ⟨p14, cap14, rfl, hC, hR14⟩ := push_row (Y := w11) (p := pl) (cap := cl) (Below.refl _ w11) hown hgrow hat
              have hB14 : Below wx.heap.size w11 w14 := hC.below (fun i hi => (owns_lt HAL11.out hi).1) hwl
              have HBX14 := Lib.hid ((HBX.out.trans (HB11.out.mono HBX.out.size)).trans hB14)
              have HLE14 := Lib.hid (owns_chg HLE11.out hC (fun g hg e => HAPL.out g e hg))
              have HAP14 := Lib.hid (show Apart p14 pr from fun g hg e => (hR14 g hg).elim (fun h => HAPL.out g h e) (fun h => by have := (owns_lt HLE11.out e).2; omega))
              have HO14 := Lib.hid hown
              clear hown hgrow hat hC hR14 hB14
              go_wp2
              go_roundw
              case rel => exact ⟨b + 1, p14, cap14, pr, cr, by omega, by go_num, by rw [HLN.out], by rw [HLN.out, HAS.out, cellsI_app, ← cellsI_seg, hNN]; exact HO14.out, by rw [HPS.out], by rw [HPS.out]; exact HLE14.out, HAP14.out, by rw [HUP.out.1], by rw [HUP.out.2.1], by rw [HUP.out.2.2], HBX14.out⟩
              case measure => simp [intOf]; omega
          · have hge : (ks.length : Int) ≤ (b : Int) := by omega
            go_wp2_with fail
            refine (class_out b _ HSB.out (.inr hge)).mono ?_
            rintro e w5 ⟨rfl, hw5⟩
            rw [← hw5]
            clear hw5
            have HAS := Lib.hid (show allP d ks (min (b + 1) ks.length) = allP d ks (min b ks.length) by rw [show min (b + 1) ks.length = ks.length from by omega, show min b ks.length = ks.length from by omega])
            have HPS := Lib.hid (show pick (fun j => decide (ks.length ≤ j)) (b + 1) = pick (fun j => decide (ks.length ≤ j)) b ++ [b] from pick_yes (by simp; omega))
            have HUP := Lib.hid (up_no (c := d) (ks := ks) (a := a) (b := b) (fun e => by have := (ownB_true.1 e.1).2.1; omega))
            go_wp2_with (at_builtin; refine wpList_append_own_at _ rfl _ _ 24 rfl wx.heap.size 3 i0 (.int .i64 0) 1 8 Tryd.underlying24 hinf hz0 hz1 hz2 rfl (by decide) _ _ _ rfl (HLE.out.alloc _) ⟨_, 0, none⟩ 1 1 [.int .i64 (b : Int)] rfl rfl (one_at rfl) (by simp [Value.oneCell']) (by unfold maxLen; omega) (by omega) (by have := HBX.out.size; simp; omega) ?_)
            intro v' w6 hown hgrow _ hat
            obtain ⟨p6, cap6, rfl, hC, hR6⟩ := push_row (Y := wr) (p := pr) (cap := cr) ((Below.refl _ wr).alloc (Nat.le_refl _) _) hown hgrow (by simpa using hat)
            have hB6 : Below wx.heap.size wr w6 := hC.below (fun i hi => (owns_lt HLE.out hi).1) HBX.out.size
            have HB6 := Lib.hid hB6
            have HBX6 := Lib.hid (HBX.out.trans hB6)
            have HAL6 := Lib.hid (owns_chg HAL.out hC (fun g hg => HAPL.out g hg))
            have HAP6 := Lib.hid (show Apart pl p6 from fun g hg e => (hR6 g e).elim (HAPL.out g hg) (fun h => by have := (owns_lt HAL.out hg).2; omega))
            have HLE6 := Lib.hid hown
            clear hown hgrow hat hC hR6 hB6
            go_wp2_with fail
            refine (slots_out (some ⟨B, 0, none⟩) b _ (fun W hW => class_out b W ((HS.out.later HBX6.out).later hW) (.inr hge))).mono ?_
            rintro e w7 ⟨p7, cap7, rfl, hb7⟩
            have HBX7 := Lib.hid (HBX6.out.trans (hb7.mono HBX6.out.size))
            have HAL7 := Lib.hid (owns_block HAL6.out (fun g hg => hb7.block g (owns_lt HAL6.out hg).2))
            have hle7 : ∀ g, rowB p6 g → g < w6.heap.size := fun g hg => (owns_lt HLE6.out hg).2
            have HLE7 := Lib.hid (owns_block HLE6.out (fun g hg => hb7.block g (hle7 g hg)))
            clear hb7 hle7
            go_wp2
            go_roundw
            case rel => exact ⟨b + 1, pl, cl, p6, cap6, by omega, by go_num, by rw [HAS.out], by rw [HAS.out]; exact HAL7.out, by rw [HPS.out]; simp, by rw [HPS.out, cellsK_snoc, List.length_append]; exact HLE7.out, HAP6.out, by rw [HUP.out.1], by rw [HUP.out.2.1], by rw [HUP.out.2.2], HBX7.out⟩
            case measure => simp [intOf]; omega
        · have hbd : ¬ (b : Int) < d.b := by have := HNB.out; omega
          obtain rfl : b = nb := by omega
          have htn : d.b.toNat = b := by have := HNB.out; omega
          have hmn : min b ks.length = ks.length := by omega
          have hue := up_end (c := d) (ks := ks) (a := a) hkn
          have hune : unK d ks = pick (fun j => decide (ks.length ≤ j)) b := by unfold unK; rw [htn]
          have hsum := of_sum H4.out d.b.toNat
          rw [hmn] at HAL
          rw [hmn]
          rw [hmn] at halen
          have hmin : min (allP d ks ks.length).length 10000 = (allP d ks ks.length).length := by omega
          have HVL := Lib.hid (valA_list d ks)
          have HUE := Lib.hid hue
          have HUN := Lib.hid hune
          have HMI := Lib.hid hmin
          clear hmn hue hune hmin htn
          go_wp2_with fail
          refine (owner_any a _ HSB.out (HT2.out.later HBW.out) HR.out).mono ?_
          rintro e w5 ⟨rfl, hb5⟩
          rw [HUE.out]
          have HB5 := Lib.hid hb5
          have HS5 := Lib.hid (HSB.out.later hb5)
          clear hb5
          go_wp2_with fail
          refine (unassigned_any _ HS5.out (by omega) (by omega)).mono ?_
          rintro e w6 ⟨p6, cap6, rfl, ho6, hb6⟩
          rw [HUN.out] at ho6
          rw [HUN.out]
          have HO6 := Lib.hid ho6
          have HB6 := Lib.hid (HB5.out.trans (hb6.mono HB5.out.size))
          have HS6 := Lib.hid (HS5.out.later hb6)
          have HLE6 := Lib.hid (owns_block HLE.out (fun g hg => HB6.out.block g (owns_lt HLE.out hg).2))
          clear ho6 hb6
          go_wp2_with fail
          refine (same_n _ _ _ _ _ ((pick (fun j => decide (ks.length ≤ j)) b).map (fun x => ((x : Nat) : Int))) (by simp) _ (listP_K _ HO6.out) (listP_K _ HLE6.out) (by omega)).mono ?_
          rintro e w7 ⟨rfl, n7, rfl⟩
          have HB7 := Lib.hid (below_drewN HB6.out n7)
          have HS7 := Lib.hid (HS6.out.drewN n7)
          go_wp2_with fail
          refine (list_any 10000 _ HS7.out (HT2.out.later (HBW.out.trans (HB7.out.mono HBW.out.size))) HR.out hkd).mono ?_
          rintro e w8 ⟨p8, cap8, rfl, ho8, hb8⟩
          rw [HMI.out] at ho8
          rw [HMI.out]
          have hl8 := listP_F _ ho8
          rw [HVL.out] at hl8
          have HL8 := Lib.hid hl8
          have HB8 := Lib.hid (HB7.out.trans (hb8.mono HB7.out.size))
          have HS8 := Lib.hid (HS7.out.later hb8)
          have HAL8 := Lib.hid (owns_block HAL.out (fun g hg => HB8.out.block g (owns_lt HAL.out hg).2))
          clear ho8 hb8 hl8
          go_wp2_with fail
          refine (same_n _ _ _ _ _ (allP d ks ks.length) rfl _ HL8.out (listP_I _ HAL8.out) (by omega)).mono ?_
          rintro e w9 ⟨rfl, n9, rfl⟩
          have HB9 := Lib.hid (below_drewN HB8.out n9)
          have HS9 := Lib.hid (HS8.out.drewN n9)
          clear hsum
          go_wp2_with fail
          refine (of_any 0 _ HS9.out (by omega) (by omega)).mono ?_
          rintro e w10 ⟨p10, cap10, rfl, _, hb10⟩
          have HB10 := Lib.hid (HB9.out.trans (hb10.mono HB9.out.size))
          have HS10 := Lib.hid (HS9.out.later hb10)
          have hl10 : (ofK d ks 0).length ≤ 4 := by have := pick_len (isOf ks 0) d.b.toNat; unfold ofK; have := HNB.out; omega
          clear hb10
          go_wp2_with fail
          refine (of_any 1 _ HS10.out (by omega) (by omega)).mono ?_
          rintro e w11 ⟨p11, cap11, rfl, _, hb11⟩
          have HB11 := Lib.hid (HB10.out.trans (hb11.mono HB10.out.size))
          have HS11 := Lib.hid (HS10.out.later hb11)
          have hl11 : (ofK d ks 1).length ≤ 4 := by have := pick_len (isOf ks 1) d.b.toNat; unfold ofK; have := HNB.out; omega
          clear hb11
          go_wp2_with fail
          refine (of_any 2 _ HS11.out (by omega) (by omega)).mono ?_
          rintro e w12 ⟨p12, cap12, rfl, _, hb12⟩
          have HB12 := Lib.hid (HB11.out.trans (hb12.mono HB11.out.size))
          have HS12 := Lib.hid (HS11.out.later hb12)
          have hl12 : (ofK d ks 2).length ≤ 4 := by have := pick_len (isOf ks 2) d.b.toNat; unfold ofK; have := HNB.out; omega
          clear hb12
          go_wp2_with fail
          refine (of_any 3 _ HS12.out (by omega) (by omega)).mono ?_
          rintro e w13 ⟨p13, cap13, rfl, _, hb13⟩
          have HB13 := Lib.hid (HB12.out.trans (hb13.mono HB12.out.size))
          have HS13 := Lib.hid (HS12.out.later hb13)
          have hl13 : (ofK d ks 3).length ≤ 4 := by have := pick_len (isOf ks 3) d.b.toNat; unfold ofK; have := HNB.out; omega
          clear hb13
          have hsum : ((((ofK d ks 0).length : Int) + ((ofK d ks 1).length : Int) + ((ofK d ks 2).length : Int) + ((ofK d ks 3).length : Int)) == (ks.length : Int)) = true := by
            have := of_sum H4.out d.b.toNat
            have : min d.b.toNat ks.length = ks.length := by have := HNB.out; omega
            unfold ofK
            simp
            omega
          go_wp2_with fail
          refine (of_any 4 _ HS13.out (by omega) (by omega)).mono ?_
          rintro e w14 ⟨p14, cap14, rfl, _, hb14⟩
          rw [show ofK d ks 4 = [] from of_none H4.out (by decide) _]
          have HB14 := Lib.hid (HB13.out.trans (hb14.mono HB13.out.size))
          have HS14 := Lib.hid (HS13.out.later hb14)
          clear hb14
          go_wp2_with fail
          refine (of_any (-1) _ HS14.out (by omega) (by omega)).mono ?_
          rintro e w15 ⟨p15, cap15, rfl, _, hb15⟩
          rw [show ofK d ks (-1) = [] from of_none H4.out (by decide) _]
          have HB15 := Lib.hid (HB14.out.trans (hb15.mono HB14.out.size))
          have HS15 := Lib.hid (HS14.out.later hb15)
          clear hb15
          go_wp2_with fail
          refine (awake_any _ (HT2.out.later (HBW.out.trans (HB15.out.mono HBW.out.size)))).mono ?_
          rintro e w20 ⟨rfl, hb20⟩
          have HF := Lib.hid (HB2.out.trans ((HBW.out.trans ((HB15.out.trans (hb20.mono HB15.out.size)).mono HBW.out.size)).mono HB2.out.size))
          clear hb20
          go_wp2
          go_ret
          exact ⟨rfl, HF.out⟩
end Go.Proofs.YtfifliepjmpgkaaDoor.Blk
