/-
  A heap, and the document's, with things that are made.
-/
import Derived.Test.YtbejddpfnglkbaaGreatDoorSwH
import Derived.Test.YtbejddpfnglkbaaGreatDoorRfW
import Derived.Deep.RegionHeld3
namespace Go.Proofs.YtbejddpfnglkbaaGreatDoor.Sw
open Go.RowKit
open Blk (Cfg TbIs kAt seg seg_length perN allP allP_succ allP_len blk adr)
open Hp (Ids St Wf Is To Mine bnI bn coE coV frE frS colB holdsF own cls fr puS unS mkE mkS mkA st0)
open Rf (Rp RTo Pu Ri Sl All Bo Lo Keep mkW)
open Go.Proofs.YtbejddpfnglkbaaGreatDoor.Row (Chg Rd Rd0 cell_of_block frozen_of_block other same rowB cellsZ cellsZ_length cellsZ_at cellsZ_snoc owns_lt owns_chg owns_slice owns_base owns_cap owns_block push_row info_parts infoInt one_at)
open Go.Proofs.YtbejddpfnglkbaaGreatDoor.Addr (Tabs)

/-- A thing: its fields, its color, whether it goes at once. -/
def thN (t : Nat × Nat × Bool) : Int := (t.1 : Int) % 16
def thC (t : Nat × Nat × Bool) : Int := (t.2.1 : Int) % 2
def mk1 (s : St) (t : Nat × Nat × Bool) : St := if mkE s (thN t) (thC t) = 0 then mkS s (thN t) (thC t) else s
def thS (s : St) (t : Nat × Nat × Bool) : St :=
  if mkE s (thN t) (thC t) = 0 ∧ t.2.2 = true then (if frE (mk1 s t) (mkW s (thN t) (thC t)) = 0 then frS (mk1 s t) (mkW s (thN t) (thC t)).toNat else mk1 s t) else mk1 s t
def madeS (s : St) (l : List (Nat × Nat × Bool)) : St := l.foldl thS s
/-- Things that came in, below S. -/
def thAt (l : List (Nat × Nat × Bool)) (j : Nat) : Nat × Nat × Bool := l.getD j (0, 0, false)
def ThingsP (S : Nat) (w : World) (p : Option Addr) (l : List (Nat × Nat × Bool)) : Prop := ∀ j, j < l.length → ∃ b off, p = some ⟨b, off, none⟩ ∧ b < S ∧
  w.cell? ⟨b, off + j * 3, none⟩ = some (.int .u8 (thAt l j).1) ∧ w.cell? ⟨b, off + j * 3 + 1, none⟩ = some (.int .u8 (thAt l j).2.1) ∧ w.cell? ⟨b, off + j * 3 + 2, none⟩ = some (.bool (thAt l j).2.2) ∧ (thAt l j).1 < 256 ∧ (thAt l j).2.1 < 256
theorem ThingsP.below {S : Nat} {W W' : World} {p : Option Addr} {l : List (Nat × Nat × Bool)} (h : ThingsP S W p l) (hb : Below S W W') : ThingsP S W' p l := fun j hj => by
  obtain ⟨b, off, e, hb', h0, h1, h2, h3⟩ := h j hj
  exact ⟨b, off, e, hb', (hb.cell (p := ⟨b, off + j * 3, none⟩) hb').trans h0, (hb.cell (p := ⟨b, off + j * 3 + 1, none⟩) hb').trans h1, (hb.cell (p := ⟨b, off + j * 3 + 2, none⟩) hb').trans h2, h3⟩
theorem mk1_keep (s : St) (t : Nat × Nat × Bool) : Keep s (mk1 s t) := by
  unfold mk1
  split
  · exact Rf.mkS_keep s _ _
  · exact Keep.refl s
theorem frS_keep (s : St) (a : Nat) : Keep s (frS s a) := ⟨rfl, rfl, List.length_set ..⟩
theorem Keep.trans {a b c : St} (h : Keep a b) (k : Keep b c) : Keep a c := ⟨k.1.trans h.1, k.2.1.trans h.2.1, k.2.2.trans h.2.2⟩
/-- What Made leaves. -/
structure Mad (w w' : World) (H M base : Nat) (d : Ids) (i : Ri) (s : St) (m : Nat) (c : Cfg) : Prop where
  bo : Bo w' H d M base i w' d s m i s
  bel : Below w.heap.size w w'
  g1 : ∀ k, Mine H d k → w.heap.size ≤ k
  g2 : ∀ k, All M i k → w.heap.size ≤ k
  hc : s.c = c
  hm : m ≤ 7000
  base : w.heap.size ≤ base
def MadeP (w : World) (s : St) (c : Cfg) (e : Ending) (w' : World) : Prop := ∃ H M base d i m, e = .returned (.tuple #[.pointer (some ⟨H, 0, none⟩), .pointer (some ⟨M, 0, none⟩)]) ∧ Mad w w' H M base d i s m c

set_option maxRecDepth 100000 in
set_option maxHeartbeats 4000000 in
theorem made_any (S : Nat) (c : Cfg) (n nc : Nat) (pa : Option Addr) (ca : Nat) (l : List (Nat × Nat × Bool)) (w : World) (ht : Tabs w) (hR : rightB c.b c.wd c.m c.r c.ce c.lg c.st = true) (hn : c.b * c.wd = (n : Int)) (hnc : c.ce = (nc : Int)) (h64 : nc ≤ 64) (hS : S ≤ w.heap.size) (hl : ThingsP S w pa l) (hla : l.length ≤ maxLen) :
    Calls Tryz.prog 8 #[(.agg #[.int .i64 c.b, .int .i64 c.wd, .int .i64 c.m, .int .i64 c.r, .int .i64 c.ce, .int .i64 c.lg, .int .i64 c.st]), .slice pa l.length ca] w (MadeP w (madeS (st0 c n nc) (l.take 40)) c) := by
  unfold maxLen at hla
  have hbx : Below w.heap.size w (w.alloc (.cells #[.int .i64 c.b, .int .i64 c.wd, .int .i64 c.m, .int .i64 c.r, .int .i64 c.ce, .int .i64 c.lg, .int .i64 c.st] 23)) := (Below.refl _ _).alloc (Nat.le_refl _) _
  have HBX := Lib.hid hbx
  have HTH := Lib.hid hl
  have HT := Lib.hid ht
  have HN1 := Lib.hid (fun (W : World) (hb : Below w.heap.size w W) => Hp.new_good c n nc W (ht.later hb) hR hn hnc)
  have HM1 := Lib.hid (fun (W : World) => Rf.new_any c n nc W hR hn hnc h64)
  have HNC := Lib.hid hnc
  clear hl ht hbx hnc hn
  go_enter Tryz.func8, Tryz.ntmps8
  go_wp2_with fail
  refine (HN1.out _ HBX.out).mono ?_
  rintro e w1 ⟨H, d, rfl, hI, hg1, hb1⟩
  have HI := Lib.hid hI
  have HG1 := Lib.hid hg1
  have HB1 := Lib.hid hb1
  have hbxz : (w.alloc (.cells #[.int .i64 c.b, .int .i64 c.wd, .int .i64 c.m, .int .i64 c.r, .int .i64 c.ce, .int .i64 c.lg, .int .i64 c.st] 23)).heap.size = w.heap.size + 1 := by simp
  have hbw : Below w.heap.size w w1 := HBX.out.trans (hb1.mono (by omega))
  have HBW := Lib.hid hbw
  have key : ∀ o, w1.cell? ⟨w.heap.size, o, none⟩ = (#[Value.int .i64 c.b, .int .i64 c.wd, .int .i64 c.m, .int .i64 c.r, .int .i64 c.ce, .int .i64 c.lg, .int .i64 c.st] : Array Value)[o]? := fun o => by
    rw [hb1.cell (p := ⟨w.heap.size, o, none⟩) (by rw [hbxz]; exact Nat.lt_succ_self _)]
    exact World.cell?_alloc_new ..
  have k0 := key 0
  have k1 := key 1
  have k2 := key 2
  have k3 := key 3
  have k4 := key 4
  have k5 := key 5
  have k6 := key 6
  simp only [List.getElem?_toArray, List.getElem?_cons_zero, List.getElem?_cons_succ] at k0 k1 k2 k3 k4 k5 k6
  clear hI hg1 hb1 key hbxz hbw HN1
  go_wp2_with fail
  refine (HM1.out w1).mono ?_
  rintro e w2 ⟨M, i, rfl, hM, hRp, hb2, hA⟩
  have HB := Lib.hid (Rf.Bo.start HI.out (HT.out.later HBW.out) hRp hb2 hA)
  have HBW2 := Lib.hid (HBW.out.trans (hb2.mono HBW.out.size))
  have HLO : Hid (Lo w w2 w2 H d M w1.heap.size i c n nc d (st0 c n nc) 0 i) := Lib.hid ⟨HB.out, rfl, by simp [st0], by simp [st0], HBW2.out, fun k hk => by have := HG1.out k hk; have := HBX.out.size; omega, fun k hk => by have := hA k hk; have := HBW.out.size; omega, HBW2.out⟩
  clear hM hRp hb2 hA k0 k1 k2 k3 k4 k5 k6 HI HB HM1 HG1
  go_wp2_with fail
  go_loopw [9] (fun x wr => ∃ (j : Nat) (d' : Ids) (m' : Nat) (i' : Ri), j ≤ l.length ∧ j ≤ 40 ∧ x = .int .i64 j ∧ m' ≤ 170 * j ∧ Lo w w2 wr H d M w1.heap.size i c n nc d' (madeS (st0 c n nc) (l.take j)) m' i') (fun x _ => 40 - (intOf x).toNat)
  case atStart => exact ⟨0, d, 0, i, Nat.zero_le _, by omega, rfl, by omega, HLO.out⟩
  case round =>
    clear HLO
    obtain ⟨j, d', m', i', hj, hj4, rfl, hm', hlo⟩ := hrel
    have HLO := Lib.hid hlo
    clear hlo
    have j0 : (0 : Int) ≤ (j : Int) := Int.natCast_nonneg _
    by_cases hlt : j < l.length ∧ j < 40
    · have j1 : (j : Int) < (l.length : Int) := by omega
      have j2 : (j : Int) < 40 := by omega
      obtain ⟨b, off, rfl, hbS, ht0, ht1, ht2, hz0, hz1⟩ := HTH.out j hlt.1
      have HTK : Hid (l.take (j + 1) = l.take j ++ [thAt l j]) := Lib.hid (by
        rw [List.take_add_one, thAt, List.getD_eq_getElem?_getD]
        have : l[j]? = some (l[j]'hlt.1) := List.getElem?_eq_getElem _
        rw [this]; rfl)
      have HCE : Hid (∀ W, Below w.heap.size w W → W.cell? ⟨b, off + j * 3, none⟩ = some (.int .u8 (thAt l j).1) ∧ W.cell? ⟨b, off + j * 3 + 1, none⟩ = some (.int .u8 (thAt l j).2.1)) := Lib.hid fun W hb =>
        ⟨(hb.cell (p := ⟨b, off + j * 3, none⟩) (by show b < _; omega)).trans ht0, (hb.cell (p := ⟨b, off + j * 3 + 1, none⟩) (by show b < _; omega)).trans ht1⟩
      have HC2 : Hid (∀ W, Below w.heap.size w W → W.cell? ⟨b, off + j * 3 + 2, none⟩ = some (.bool (thAt l j).2.2)) := Lib.hid fun W hb => (hb.cell (p := ⟨b, off + j * 3 + 2, none⟩) (by show b < _; omega)).trans ht2
      have HS1 : Hid (madeS (st0 c n nc) (l.take (j + 1)) = thS (madeS (st0 c n nc) (l.take j)) (thAt l j)) := Lib.hid (by
        rw [HTK.out]; simp [madeS, List.foldl_append])
      clear ht0 ht1 ht2 HTK
      generalize hgs : madeS (st0 c n nc) (l.take (j + 1)) = s1 at *
      have HGS := Lib.hid hgs
      clear hgs
      generalize madeS (st0 c n nc) (l.take j) = s at *
      generalize thAt l j = t at *
      obtain ⟨f, cl, gone⟩ := t
      simp only at hz0 hz1
      have HKP := Lib.hid (mk1_keep s (f, cl, gone))
      have HPU := Lib.hid (Rf.pu_of HLO.out.bo.is (by omega))
      obtain ⟨nf, hnf⟩ : ∃ v, IntKind.i64.wrap ((f : Int).tmod 16) = v := ⟨_, rfl⟩
      obtain ⟨nk, hnk⟩ : ∃ v, IntKind.i64.wrap ((cl : Int).tmod 2) = v := ⟨_, rfl⟩
      have e1 : thN (f, cl, gone) = nf := by
        rw [← hnf, thN, Int.tmod_eq_emod_of_nonneg (by omega), IntKind.wrap_i64]
        show (f : Int) % 16 = _
        omega
      have e2 : thC (f, cl, gone) = nk := by
        rw [← hnk, thC, Int.tmod_eq_emod_of_nonneg (by omega), IntKind.wrap_i64]
        show (cl : Int) % 2 = _
        omega
      have HT1 : Hid (mk1 s (f, cl, gone) = if mkE s nf nk = 0 then mkS s nf nk else s) := Lib.hid (by rw [mk1, e1, e2])
      have HT2 : Hid (thS s (f, cl, gone) = if mkE s nf nk = 0 ∧ gone = true then (if frE (mk1 s (f, cl, gone)) (mkW s nf nk) = 0 then frS (mk1 s (f, cl, gone)) (mkW s nf nk).toNat else mk1 s (f, cl, gone)) else mk1 s (f, cl, gone)) := Lib.hid (by rw [thS, e1, e2])
      clear e1 e2
      generalize mk1 s (f, cl, gone) = s2 at *
      have HK0 := Lib.hid (HCE.out (wr.drewN 1) (below_drewN HLO.out.bel 1))
      go_wp2
      go_region_held3 (fun W => W.cell? ⟨b, off + j * 3, none⟩ = some (.int .u8 f) ∧ W.cell? ⟨b, off + j * 3 + 1, none⟩ = some (.int .u8 cl))
        (first | exact HK0.out | exact S3)
        (first
          | (go_at_call 19; refine (Rf.hmake_any _ _ _ (HLO.out.bo.drewN 1).is (HLO.out.bo.drewN 1).tb (by omega)).mono ?_; rintro e w3 ⟨rfl, hT⟩; obtain ⟨d3, hB3⟩ := (HLO.out.bo.drewN 1).heap hT; have HB3 := Lib.hid hB3; have S3 := HCE.out w3 (hB3.below HLO.out.b0 HLO.out.g1 HLO.out.g2); clear hT hB3))
      rw [← HT1.out] at HB3
      have S3' := S3
      clear HK0 S3
      obtain ⟨ad, had⟩ : ∃ v, mkW s nf nk = v := ⟨_, rfl⟩
      obtain ⟨er, her⟩ : ∃ v, mkE s nf nk = v := ⟨_, rfl⟩
      have HMK := Lib.hid (fun (W : World) (h : Rp W M w1.heap.size i' s) => Rf.make_all nf nk W h HPU.out)
      rw [← HT1.out, had, her] at HMK
      have HK1 := Lib.hid (HCE.out (w3.drewN 1) (below_drewN (HB3.out.below HLO.out.b0 HLO.out.g1 HLO.out.g2) 1))
      rw [had, her]
      have hbw3 : Below w.heap.size w w3 := HB3.out.below HLO.out.b0 HLO.out.g1 HLO.out.g2
      obtain ⟨c0, c1⟩ := S3'
      have HCE3 := Lib.hid HCE.out
      clear hbw3
      go_wp2
      go_region_held3 (fun W => W.cell? ⟨b, off + j * 3, none⟩ = some (.int .u8 f) ∧ W.cell? ⟨b, off + j * 3 + 1, none⟩ = some (.int .u8 cl))
        (first | exact HK1.out | exact S4)
        (first
          | (go_at_call 29; refine (HMK.out _ (HB3.out.drewN 1).rp).mono ?_; rintro e w4 ⟨rfl, hT⟩; obtain ⟨i4, hB4⟩ := (HB3.out.drewN 1).ref hT; have HB4 := Lib.hid hB4; have S4 := HCE.out w4 (hB4.below HLO.out.b0 HLO.out.g1 HLO.out.g2); clear hT hB4))
      have hx2 := HC2.out w4 (HB4.out.below HLO.out.b0 HLO.out.g1 HLO.out.g2)
      have haa : (ad != ad) = false := by simp
      have hee : (er != er) = false := by simp
      clear HK1 S4 c0 c1 HB3 HCE3 HMK
      rw [had, her] at HT2
      rw [her] at HT1
      clear had her HT1
      by_cases he0 : er = 0
      · have be0 : (er == 0) = true := by rw [beq_iff_eq]; exact he0
        cases gone with
        | false =>
          have HE := Lib.hid (show s1 = s2 by rw [HS1.out, HT2.out, if_neg (fun h => by cases h.2)])
          go_wp2
          go_roundw
          case rel => exact ⟨j + 1, d3, m' + 160, i4, by omega, by omega, by go_num, by omega, by rw [HGS.out, HE.out]; exact ⟨HB4.out, HKP.out.1.trans HLO.out.hc, HKP.out.2.2.trans HLO.out.hn, HKP.out.2.1.trans HLO.out.hl, HB4.out.below HLO.out.b0 HLO.out.g1 HLO.out.g2, HLO.out.g1, HLO.out.g2, HLO.out.b0⟩⟩
          case measure => simp [intOf]; omega
        | true =>
          have HE := Lib.hid (show s1 = (if frE s2 ad = 0 then frS s2 ad.toNat else s2) by rw [HS1.out, HT2.out, if_pos ⟨he0, rfl⟩])
          have HPU2 := Lib.hid (Rf.pu_of HB4.out.is (by omega))
          have HKE : Hid (Keep s2 (if frE s2 ad = 0 then frS s2 ad.toNat else s2)) := Lib.hid (by
            split
            · exact frS_keep _ _
            · exact Keep.refl _)
          go_wp2_with fail
          refine (Hp.free_any ad w4 HB4.out.is HB4.out.tb (by omega)).mono ?_
          rintro e w5 ⟨rfl, hT⟩
          obtain ⟨d5, hB5⟩ := HB4.out.heap hT
          have HB5 := Lib.hid hB5
          clear hT hB5
          go_wp2_with fail
          refine (Rf.release_all ad w5 HB5.out.rp HPU2.out).mono ?_
          rintro e w6 ⟨rfl, hT⟩
          obtain ⟨i6, hB6⟩ := HB5.out.ref hT
          have HB6 := Lib.hid hB6
          clear hT hB6
          rw [← HE.out] at HB6 HKE
          go_wp2
          go_roundw
          case rel => exact ⟨j + 1, d5, m' + 160 + 1, i6, by omega, by omega, by go_num, by omega, by rw [HGS.out]; exact ⟨HB6.out, HKE.out.1.trans (HKP.out.1.trans HLO.out.hc), HKE.out.2.2.trans (HKP.out.2.2.trans HLO.out.hn), HKE.out.2.1.trans (HKP.out.2.1.trans HLO.out.hl), HB6.out.below HLO.out.b0 HLO.out.g1 HLO.out.g2, HLO.out.g1, HLO.out.g2, HLO.out.b0⟩⟩
          case measure => simp [intOf]; omega
      · have be0 : (er == 0) = false := by rw [beq_eq_false_iff_ne]; exact he0
        have HE := Lib.hid (show s1 = s2 by rw [HS1.out, HT2.out, if_neg (fun h => he0 h.1)])
        go_wp2
        go_roundw
        case rel => exact ⟨j + 1, d3, m' + 160, i4, by omega, by omega, by go_num, by omega, by rw [HGS.out, HE.out]; exact ⟨HB4.out, HKP.out.1.trans HLO.out.hc, HKP.out.2.2.trans HLO.out.hn, HKP.out.2.1.trans HLO.out.hl, HB4.out.below HLO.out.b0 HLO.out.g1 HLO.out.g2, HLO.out.g1, HLO.out.g2, HLO.out.b0⟩⟩
        case measure => simp [intOf]; omega
    · have htk : l.take j = l.take 40 := by
        by_cases h40 : j = 40
        · rw [h40]
        · rw [List.take_of_length_le (by omega), List.take_of_length_le (by omega)]
      have hfin := HLO.out
      rw [htk] at hfin
      have HF := Lib.hid hfin
      clear hfin htk HLO
      have hmm : m' ≤ 7000 := by omega
      by_cases hjl : j < l.length
      · have j1 : (j : Int) < (l.length : Int) := by omega
        have j2 : ¬ (j : Int) < 40 := by omega
        go_wp2
        go_ret2
        exact ⟨H, M, w1.heap.size, d', i', m', rfl, ⟨HF.out.bo.self, HF.out.bel, fun k hk => (HF.out.bo.inD k hk).elim (HF.out.g1 k) (fun x => by have := HF.out.b0.size; omega), fun k hk => (HF.out.bo.inI k hk).elim (HF.out.g2 k) (fun x => by have := HF.out.b0.size; omega), HF.out.hc, hmm, HBW.out.size⟩⟩
      · have j1 : ¬ (j : Int) < (l.length : Int) := by omega
        go_wp2
        go_ret2
        exact ⟨H, M, w1.heap.size, d', i', m', rfl, ⟨HF.out.bo.self, HF.out.bel, fun k hk => (HF.out.bo.inD k hk).elim (HF.out.g1 k) (fun x => by have := HF.out.b0.size; omega), fun k hk => (HF.out.bo.inI k hk).elim (HF.out.g2 k) (fun x => by have := HF.out.b0.size; omega), HF.out.hc, hmm, HBW.out.size⟩⟩
end Go.Proofs.YtbejddpfnglkbaaGreatDoor.Sw
