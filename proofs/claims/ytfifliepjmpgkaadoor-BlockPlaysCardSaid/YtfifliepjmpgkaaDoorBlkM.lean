/-
  The law BlockSlots answers true, for every config and row of classes.
-/
import Derived.Test.YtfifliepjmpgkaaDoorBlkL
namespace Go.Proofs.YtfifliepjmpgkaaDoor.Blk
open Go.RowKit Go.Shelf
open Go.Proofs.YtfifliepjmpgkaaDoor.Addr (Tabs adrB adrB_true finB finB_true offI)
open Class (isB isB_true sizI perI refsize_any quiet_left)

/-- The bytes of a row that came in, below S. -/
def BytesP (S : Nat) (W : World) (p : Option Addr) (zs : List Nat) : Prop := ∀ j, j < zs.length → ∃ b off, p = some ⟨b, off, none⟩ ∧ b < S ∧ zs.getD j 0 < 256 ∧ W.cell? ⟨b, off + j, none⟩ = some (.int .u8 ((zs.getD j 0 : Nat) : Int))
theorem BytesP.below {S : Nat} {W W' : World} {p : Option Addr} {zs : List Nat} (h : BytesP S W p zs) (hb : Below S W W') : BytesP S W' p zs := fun j hj => by
  obtain ⟨b, off, e, hb', hz, hc⟩ := h j hj
  exact ⟨b, off, e, hb', hz, (hb.cell (p := ⟨b, off + j, none⟩) hb').trans hc⟩

/-- The first classes, as many as there are blocks. -/
def kL (f : Nat → Nat) (m nb : Nat) : List Nat := (List.range (min m nb)).map f
theorem kL_len (f : Nat → Nat) (m nb : Nat) : (kL f m nb).length = min m nb := by simp [kL]
theorem kL_more (f : Nat → Nat) {m nb : Nat} (h : m < nb) : kL f (m + 1) nb = kL f m nb ++ [f m] := by
  unfold kL
  rw [show min (m + 1) nb = m + 1 from by omega, show min m nb = m from by omega, List.range_succ]
  simp
theorem kL_full (f : Nat → Nat) {m nb : Nat} (h : nb ≤ m) : kL f (m + 1) nb = kL f m nb := by
  unfold kL
  rw [show min (m + 1) nb = nb from by omega, show min m nb = nb from by omega]

/-- A slot's owner is the block whose slot it is. -/
theorem own_adr {c : Cfg} {ks : List Nat} {b i : Nat} (hR : rightB c.b c.wd c.m c.r c.ce c.lg c.st = true) (hb : b < ks.length) (hbb : (b : Int) < c.b) (hk : kAt ks b < 4) (hi : i < perN c (kAt ks b)) :
    ownV c ks (adr c (kAt ks b) b i) = .tuple #[.int .i64 (b : Int), .int .i64 (kAt ks b), .bool true] := by
  have hRC : RightC c.b c.wd c.m c.r c.ce c.lg c.st := refRightB_true.1 ((rightB_ref ..).symm.trans hR)
  have hpi := perN_eq c (kAt ks b)
  obtain ⟨⟨p0, p1⟩, p2, p3, p4, p5⟩ := adr_bd (k := (kAt ks b : Int)) hR hbb (i := i) (by rw [hpi]; exact Int.ofNat_lt.2 hi)
  have hw0 := hRC.wd0
  have e1 : adr c (kAt ks b) b i - 1 = (i : Int) * sizI (kAt ks b) + (b : Int) * c.wd := by unfold adr; omega
  have e2 : (adr c (kAt ks b) b i - 1) / c.wd = (b : Int) := by
    rw [e1, Int.add_mul_ediv_right _ _ (by omega), Int.ediv_eq_zero_of_lt p2 (by omega)]; simp
  have e3 : offI c.wd (adr c (kAt ks b) b i) = (i : Int) * sizI (kAt ks b) := by
    unfold offI
    rw [e1, Int.add_mul_emod_self_right, Int.emod_eq_of_lt p2 (by omega)]
  have hblk : blk c (adr c (kAt ks b) b i) = b := by unfold blk; rw [e2]; simp
  have hmul : ((b : Int) + 1) * c.wd ≤ c.b * c.wd := Int.mul_le_mul_of_nonneg_right (by omega) (by omega)
  have hexp : ((b : Int) + 1) * c.wd = (b : Int) * c.wd + c.wd := by rw [Int.add_mul, Int.one_mul]
  have hA : adrB true c.b c.wd (adr c (kAt ks b) b i) = true := adrB_true.2 ⟨rfl, by omega, by omega⟩
  have hB : isB (kAt ks b : Int) = true := isB_true.2 ⟨by omega, by omega⟩
  have hF : finB true c.b c.wd (kAt ks b) (adr c (kAt ks b) b i) = true := finB_true.2 ⟨hA, hB, by rw [e3, Int.mul_ediv_cancel _ (by omega), hpi]; exact Int.ofNat_lt.2 hi⟩
  rw [ownV_yes (ownB_true.2 ⟨hA, by rw [hblk]; exact hb, by rw [hblk]; exact hF, by rw [hblk, e3, Int.mul_emod_left]⟩), hblk]

theorem adr_step {c : Cfg} {k b i : Nat} (hi : 1 ≤ i) : adr c k b i - adr c k b (i - 1) = sizI k := by
  obtain ⟨j, rfl⟩ : ∃ j, i = j + 1 := ⟨i - 1, by omega⟩
  unfold adr
  rw [Nat.add_sub_cancel, Int.natCast_add, Int.add_mul]
  simp
  omega

theorem slots_bd {c : Cfg} (hR : rightB c.b c.wd c.m c.r c.ce c.lg c.st = true) : RightC c.b c.wd c.m c.r c.ce c.lg c.st := refRightB_true.1 ((rightB_ref ..).symm.trans hR)

set_option maxRecDepth 100000 in
set_option maxHeartbeats 4000000 in
theorem slots_walk (c : Cfg) (pa : Option Addr) (ca : Nat) (za : List Nat) (w : World) (ht : Tabs w) (ha : BytesP w.heap.size w pa za) :
    Calls Tryd.prog 6 #[(.agg #[.int .i64 c.b, .int .i64 c.wd, .int .i64 c.m, .int .i64 c.r, .int .i64 c.ce, .int .i64 c.lg, .int .i64 c.st]), .slice pa za.length ca] w fun e w' => e = .returned (.bool true) ∧ Below w.heap.size w w' := by
  have HT := Lib.hid ht
  have HA := Lib.hid ha
  have HR := Lib.hid (little_right c)
  obtain ⟨hb0, hb1⟩ := little_b c
  clear ht ha
  go_enter Tryd.func6, Tryd.ntmps6
  go_wp2_with fail
  refine (little_any c _).mono ?_
  rintro e w1 ⟨rfl, hb⟩
  have HW := Lib.hid (fun W2 hW => box7 (d := little c) (W2 := W2) (by simpa using hb) hW)
  obtain ⟨hc1, hf1⟩ := bcell hb
  have hz1 : w.heap.size < w1.heap.size := by have := hb.size; simp at this; omega
  clear hb
  generalize hL : little c = d at *
  by_cases hbig : 20 < za.length
  · have h1 : (20 : Int) < (za.length : Int) := by omega
    go_wp2_with fail
    generalize hW : World.setCell _ _ _ = W2
    obtain ⟨hbox, hb2⟩ := HW.out W2 hW
    refine (awake_any _ (HT.out.later hb2)).mono ?_
    rintro e w3 ⟨rfl, hb3⟩
    have HF := Lib.hid (hb2.trans (hb3.mono hb2.size))
    clear hW HW hc1 hf1 hz1 hb2 hbox hb3
    go_wp2
    go_ret
    exact ⟨rfl, HF.out⟩
  have h1 : (za.length : Int) ≤ 20 := by omega
  have hd1 : decide ((20 : Int) < (za.length : Int)) = false := by simpa using h1
  go_wp2_with fail
  generalize hW : World.setCell _ _ _ = W1
  obtain ⟨hbox, hb2⟩ := HW.out W1 hW
  clear hW HW hc1 hf1 hz1
  refine (awake_any _ (HT.out.later hb2)).mono ?_
  rintro e W2 ⟨rfl, hb3⟩
  have HT2 := Lib.hid ((HT.out.later hb2).later hb3)
  have HB2 := Lib.hid (hb2.trans (hb3.mono hb2.size))
  have HX2 := Lib.hid (hbox.later hb3)
  have c0 := (hbox.later hb3).b0
  have c1 := (hbox.later hb3).b1
  have c2 := (hbox.later hb3).b2
  have c3 := (hbox.later hb3).b3
  have c4 := (hbox.later hb3).b4
  have c5 := (hbox.later hb3).b5
  have c6 := (hbox.later hb3).b6
  clear hb2 hb3 hbox
  go_wp2_with fail
  refine (new_good d _ HT2.out.lim HR.out).mono ?_
  rintro e w3 ⟨B, rfl, h3, hb3⟩
  have HS3 := Lib.hid h3
  have HB3 := Lib.hid hb3
  clear h3 hb3 c0 c1 c2 c3 c4 c5 c6 hd1
  obtain ⟨nb, hnb⟩ : ∃ n : Nat, d.b = (n : Int) := ⟨d.b.toNat, by omega⟩
  go_wp2_with fail
  go_loopw [7] (fun i wr => ∃ (m : Nat) (p : Option Addr) (cap : Nat), m ≤ za.length ∧ i = .int .i64 (m : Int) ∧ TbIs wr B W2.heap.size d (kL (fun j => za.getD j 0 % 4) m nb) p cap ∧ Below W2.heap.size W2 wr) (fun i _ => za.length - (intOf i).toNat)
  case atStart => exact ⟨0, none, 0, Nat.zero_le _, rfl, by simpa [kL] using HS3.out, HB3.out⟩
  case round =>
    obtain ⟨m, p, cap, hm, rfl, hS, hB⟩ := hrel
    have HS := Lib.hid hS
    have HB := Lib.hid hB
    have k0 := (HX2.out.later hB).b0
    have hwx : w.heap.size < wr.heap.size := Nat.lt_of_lt_of_le HX2.out.lt hB.size
    clear hS hB
    by_cases hlt : m < za.length
    · obtain ⟨b, off, rfl, hbS, hz, hcx⟩ := (HA.out.below (HB2.out.trans (HB.out.mono HB2.out.size))) m hlt
      have i1 : (0 : Int) ≤ (m : Int) := Int.natCast_nonneg _
      have i2 : (m : Int) < (za.length : Int) := by omega
      have hgz : (fun j => za.getD j 0 % 4) m = za.getD m 0 % 4 := rfl
      generalize hzz : za.getD m 0 = z at *
      by_cases hmb : m < nb
      · have hmd : (m : Int) < d.b := by omega
        have HK := Lib.hid (kL_more (fun j => za.getD j 0 % 4) hmb)
        rw [hzz] at HK
        have hlen : (kL (fun j => za.getD j 0 % 4) m nb).length = m := by rw [kL_len]; omega
        go_wp2_with fail
        refine (assign_goodZ _ (z % 4) (by omega) _ HS.out (Nat.mod_lt _ (by decide)) (by rw [hlen]; omega) (by omega) HB.out.size).mono ?_
        rintro e w5 ⟨rfl, p5, cap5, h5, hc5, hr5⟩
        rw [hlen]
        have hb5 := HB.out.trans (hc5.below (fun i hi => hi.elim (fun e => by rw [e]; exact HS.out.base) (fun e => (HS.out.ltG e).1)) HB.out.size)
        have q0 := (HX2.out.later hb5).b0
        have H5 := Lib.hid h5
        have HB5 := Lib.hid hb5
        clear h5 hc5 hr5 hb5 hlen hgz
        go_wp2
        go_roundw
        case rel => exact ⟨m + 1, p5, cap5, by omega, by go_num, by rw [HK.out]; exact H5.out, HB5.out⟩
        case measure => simp [intOf]; omega
      · have hmd : ¬ (m : Int) < d.b := by omega
        have HK := Lib.hid (kL_full (fun j => za.getD j 0 % 4) (m := m) (nb := nb) (by omega))
        have hlen : (kL (fun j => za.getD j 0 % 4) m nb).length = nb := by rw [kL_len]; omega
        go_wp2_with fail
        refine (assign_full _ _ HS.out (isB_true.2 ⟨by omega, by omega⟩) (by rw [hlen]; omega)).mono ?_
        rintro e w5 ⟨rfl, n5, rfl⟩
        clear hlen hgz
        go_wp2
        go_roundw
        case rel => exact ⟨m + 1, p, cap, by omega, by go_num, by rw [HK.out]; exact HS.out.drewN _, below_drewN HB.out _⟩
        case measure => simp [intOf]; omega
    · obtain rfl : m = za.length := by omega
      have hKl : (kL (fun j => za.getD j 0 % 4) za.length nb).length = min za.length nb := kL_len _ _ _
      generalize hKK : kL (fun j => za.getD j 0 % 4) za.length nb = K at *
      have hK4 : (K.length : Int) ≤ d.b := by omega
      have HKl := Lib.hid hKl
      clear hKl
      generalize wr = wx at *
      go_wp2_with fail
      go_loopw [10, 11] (fun nn bb wq => ∃ q : Nat, q ≤ nb ∧ bb = .int .i64 (q : Int) ∧ nn = .int .i64 (((allP d K (min q K.length)).length : Nat) : Int) ∧ Below wx.heap.size wx wq) (fun _ bb _ => nb - (intOf bb).toNat)
      case atStart => exact ⟨0, Nat.zero_le _, rfl, by simp [allP], Below.refl _ _⟩
      case round =>
        obtain ⟨q, hq, rfl, rfl, hbq⟩ := hrel
        have HBQ := Lib.hid hbq
        have HSQ := Lib.hid (HS.out.later hbq)
        have HB0 := Lib.hid (HB.out.trans (hbq.mono HB.out.size))
        have q0 := (HX2.out.later (HB.out.trans (hbq.mono HB.out.size))).b0
        clear hbq k0
        by_cases hlq : q < nb
        · have hqd : (q : Int) < d.b := by omega
          by_cases hqK : q < K.length
          · have HN := Lib.hid (perN_eq d (kAt K q))
            have hk4 : kAt K q < 4 := HSQ.out.kLt q
            have hN1 := perN_pos HR.out hk4
            go_wp2_with fail
            refine (slots_in wr HSQ.out HR.out hqK hqd HN.out hN1 (HT2.out.later HB0.out)).mono ?_
            rintro e w6 ⟨p6, cap6, rfl, ho6, hb6⟩
            generalize hNN : perN d (kAt K q) = N at *
            obtain ⟨g, rfl⟩ : ∃ g, p6 = some ⟨g, 0, none⟩ := by
              obtain ⟨_, ⟨_, h0⟩ | ⟨g, c', cur, e1, _⟩⟩ := ho6
              · omega
              · cases e1; exact ⟨g, rfl⟩
            have HCE := Lib.hid (fun (x : Nat) (hx : x < N) => owns_cell ho6 x (.int .i64 (adr d (kAt K q) q x)) (by simp [cellsF, hx]))
            have hg6 : g < w6.heap.size := (owns_lt ho6 rfl).2
            have HS6 := Lib.hid (HSQ.out.later hb6)
            have HB6 := Lib.hid (HB0.out.trans (hb6.mono HB0.out.size))
            have HBQ6 := Lib.hid (HBQ.out.trans (hb6.mono HBQ.out.size))
            clear ho6 hb6
            go_wp2_with (go_at_call 16; refine (class_in q _ HS6.out hqK).mono ?_; rintro e w7 ⟨rfl, rfl⟩)
            have hoff : ((allP d K (min q K.length)).length : Int) + (N : Int) = ((allP d K (min (q + 1) K.length)).length : Int) := by
              rw [show min (q + 1) K.length = q + 1 from by omega, show min q K.length = q from by omega, allP_succ, List.length_append, seg_length, hNN]; omega
            have hoffb : ((allP d K (min q K.length)).length : Int) ≤ 128 * 4 := by have := allP_len d K (min q K.length); omega
            have hN128 : N ≤ 128 := by rw [← hNN]; exact perN_le _ _
            have HOF := Lib.hid hoff
            clear hoff
            generalize hoq : (allP d K (min q K.length)).length = o at *
            generalize hx6 : w6 = wy at *
            go_loopw [15] (fun ii wr => ∃ j : Nat, j ≤ N ∧ ii = .int .i64 (j : Int) ∧ Below wy.heap.size wy wr) (fun ii _ => N - (intOf ii).toNat)
            case atStart => exact ⟨0, Nat.zero_le _, rfl, Below.refl _ _⟩
            case round =>
              obtain ⟨j, hj, rfl, hbj⟩ := hrel
              have HBJ := Lib.hid hbj
              clear hbj
              by_cases hlj : j < N
              · have HV := Lib.hid (own_adr HR.out hqK hqd hk4 (i := j) (by rw [hNN]; exact hlj))
                have hcj := (HBJ.out.cell (p := ⟨g, j, none⟩) hg6).trans (HCE.out j hlj)
                have i1 : (0 : Int) ≤ (j : Int) := Int.natCast_nonneg _
                have i2 : (j : Int) < (N : Int) := by omega
                go_wp2_with fail
                refine (owner_any _ _ (HS6.out.later HBJ.out) (HT2.out.later (HB6.out.trans (HBJ.out.mono HB6.out.size))) HR.out).mono ?_
                rintro e w8 ⟨rfl, hb8⟩
                rw [HV.out]
                have HB8 := Lib.hid (HBJ.out.trans (hb8.mono HBJ.out.size))
                have hcj8 := (HB8.out.cell (p := ⟨g, j, none⟩) hg6).trans (HCE.out j hlj)
                clear hcj hb8
                rcases Nat.eq_zero_or_pos j with hj0 | hj0
                · subst hj0
                  go_wp2_with fail
                  go_quiet ((go_at_call 27; exact quiet_left (refsize_any _ _)))
                  go_wp2
                  go_roundw
                  case rel => exact ⟨1, by omega, by go_num, below_drewN HB8.out _⟩
                  case measure => simp [intOf]; omega
                · have hst := adr_step (c := d) (k := kAt K q) (b := q) hj0
                  have hcp8 := (HB8.out.cell (p := ⟨g, j - 1, none⟩) hg6).trans (HCE.out (j - 1) (by omega))
                  have hq2 : ((j : Int) - 1).toNat = j - 1 := by omega
                  have hq3 : IntKind.i64.wrap ((j : Int) - 1) = (j : Int) - 1 := IntWalk.i64_in _ (by omega)
                  have i3 : (0 : Int) ≤ (j : Int) - 1 := by omega
                  have i4 : (j : Int) - 1 < (N : Int) := by omega
                  have i5 : (0 : Int) < (j : Int) := by omega
                  obtain ⟨s0, s1⟩ := Class.sizI_bd (k := (kAt K q : Int)) (isB_true.2 ⟨by omega, by omega⟩)
                  have hq4 : IntKind.i64.wrap (adr d (kAt K q) q j - adr d (kAt K q) q (j - 1)) = sizI (kAt K q) := by rw [hst]; exact IntWalk.i64_in _ (by omega)
                  clear hst
                  go_wp2_with fail
                  go_quiet ((go_at_call 27; exact quiet_left (refsize_any _ _)))
                  clear hq2 hq3 hq4
                  go_wp2
                  go_roundw
                  case rel => exact ⟨j + 1, by omega, by go_num, below_drewN HB8.out _⟩
                  case measure => simp [intOf]; omega
              · have hnlj : ¬ (j : Int) < (N : Int) := by omega
                go_wp2
                refine ⟨⟨q + 1, by omega, by go_num, ?_, HBQ6.out.trans (HBJ.out.mono HBQ6.out.size)⟩, ?_⟩
                · rw [← HOF.out]
                · simp [intOf]; omega
          · go_wp2_with fail
            refine (slots_out (some ⟨B, 0, none⟩) q wr (fun W hW => class_out q W (HSQ.out.later hW) (.inr (by omega)))).mono ?_
            rintro e w6 ⟨p6, cap6, rfl, hb6⟩
            go_wp2_with (go_at_call 16; refine (class_out q _ (HSQ.out.later hb6) (.inr (by omega))).mono ?_; rintro e w7 ⟨rfl, rfl⟩)
            have HB6 := Lib.hid (HBQ.out.trans (hb6.mono HBQ.out.size))
            clear hb6
            have hoff : (allP d K (min (q + 1) K.length)).length = (allP d K (min q K.length)).length := by
              rw [show min (q + 1) K.length = K.length from by omega, show min q K.length = K.length from by omega]
            have hoffb : ((allP d K (min q K.length)).length : Int) ≤ 128 * 4 := by have := allP_len d K (min q K.length); omega
            have HOF := Lib.hid hoff
            clear hoff
            generalize hoq : (allP d K (min q K.length)).length = o at *
            go_loopw [15] (fun ii wr => ii = .int .i64 0 ∧ Below wx.heap.size wx wr) (fun _ _ => 0)
            case atStart => exact ⟨rfl, HB6.out⟩
            case round =>
              obtain ⟨rfl, hbj⟩ := hrel
              have HBJ := Lib.hid hbj
              clear hbj
              go_wp2
              refine ⟨⟨q + 1, by omega, by go_num, by rw [HOF.out], HBJ.out⟩, ?_⟩
              simp [intOf]; omega
        · have hqd : ¬ (q : Int) < d.b := by omega
          obtain rfl : q = nb := by omega
          have hmn : min q K.length = K.length := by omega
          rw [hmn]
          have hun : (unK d K).length = q - K.length := by rw [unK_len]; omega
          obtain ⟨n1, hn1⟩ : ∃ n : Nat, q - K.length = n := ⟨_, rfl⟩
          rw [hn1] at hun
          have hKl := HKl.out
          have hmx : IntKind.i64.wrap ((q : Int) - (za.length : Int)) = (q : Int) - (za.length : Int) := IntWalk.i64_in _ (by omega)
          have hmy : max (0 : Int) ((q : Int) - (za.length : Int)) = (n1 : Int) := by omega
          have htot : (allP d K K.length).length ≤ 512 := by have := allP_len d K K.length; omega
          have hmin : min (allP d K K.length).length 10000 = (allP d K K.length).length := by omega
          have hwx : w.heap.size < wr.heap.size := Nat.lt_of_lt_of_le HX2.out.lt HB0.out.size
          have HL := Lib.hid (fun (W : World) (h : Below wr.heap.size wr W) => list_anyZ 10000 10000 rfl W (HSQ.out.later h) (HT2.out.later (HB0.out.trans (h.mono HB0.out.size))) HR.out hK4)
          have HUN := Lib.hid (fun (W : World) (h : Below wr.heap.size wr W) => unassigned_any W (HSQ.out.later h) (by omega) (by omega))
          rw [hmin] at HL
          rw [hun] at HUN
          generalize hoq : (allP d K K.length).length = o at *
          have HKP := Lib.hid (fun (W : World) (h : Below wr.heap.size wr W) => (⟨h, (h.cell (p := ⟨w.heap.size, 0, none⟩) hwx).trans q0⟩ : Below wr.heap.size wr W ∧ W.cell? ⟨w.heap.size, 0, none⟩ = some (.int .i64 d.b)))
          have HK0 := Lib.hid (HKP.out _ (below_drew (Below.refl _ wr)))
          have HK2 := Lib.hid (fun (wc W : World) (hb : Below wc.heap.size wc W) (h : Below wr.heap.size wr wc ∧ wc.cell? ⟨w.heap.size, 0, none⟩ = some (.int .i64 d.b)) => HKP.out W (h.1.trans (hb.mono h.1.size)))
          clear hmin hun hn1 hKl htot hmn hqd hoq
          go_wp2_with fail
          go_region_held3 (fun W => Below wr.heap.size wr W ∧ W.cell? ⟨w.heap.size, 0, none⟩ = some (.int .i64 d.b))
            (first | exact HK0.out | assumption | exact HK2.out _ _ hb8 (by assumption))
            (first
              | (go_at_call 24; with_reducible refine Calls.mono (HL.out _ (And.left (by assumption))) ?_; rintro e w8 ⟨p8, cap8, rfl, hb8⟩)
              | (go_at_call 23; refine (HUN.out _ (And.left (by assumption))).mono ?_; rintro e w8 ⟨p8, cap8, rfl, _, hb8⟩))
          all_goals
            have hS : Below wr.heap.size wr w8 := (show Below wr.heap.size wr w8 ∧ w8.cell? ⟨w.heap.size, 0, none⟩ = some (.int .i64 d.b) by assumption).1
            have HF := Lib.hid (HB2.out.trans ((HB0.out.trans (hS.mono HB0.out.size)).mono HB2.out.size))
            clear hS hb8
            go_wp2
            go_ret
            exact ⟨rfl, HF.out⟩
end Go.Proofs.YtfifliepjmpgkaaDoor.Blk
