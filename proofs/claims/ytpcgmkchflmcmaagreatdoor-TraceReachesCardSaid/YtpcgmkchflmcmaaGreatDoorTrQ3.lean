/-
  The law's Made; its example; what is too great.
-/
import Derived.Test.YtpcgmkchflmcmaaGreatDoorTrQ2
namespace Go.Proofs.YtpcgmkchflmcmaaGreatDoor.Tr
open Go.RowKit Go.Shelf
open Class (below_drewN)
open Blk (Cfg allP kAt little little_any little_right)
open Bits (SetIs TzTab)
open Hp (Ids St Wf Is To Mine bn bnI bnI_nat objL not_mine pkA_len objects_any NewRow fields_any storeF_any fN fE sE stS st0)
open Sw (ThingsP made_any madeS Mad Sm)
open Go.Proofs.YtpcgmkchflmcmaaGreatDoor.Row (Chg Rd Rd0 rowB rowB_none cell_of_block frozen_of_block other same cellsZ cellsZ_length cellsZ_at owns_block owns_chg owns_lt owns_base owns_cell owns_slice)
open Go.Proofs.YtpcgmkchflmcmaaGreatDoor.Addr (Tabs)

/-- What a field is laid as, by a number. -/
def lvV (al : List Int) (x : Nat) : Int := if 0 < x % 4 then al.getD (x / 4 % al.length) 0 else 0
def lay1 (al : List Int) (a : Int) (f x : Nat) (s : St) : St := if sE s a (f : Nat) (lvV al x) = 0 then stS s a.toNat f (lvV al x).toNat else s
def inn (al : List Int) (fl : List Nat) (a : Int) (q : St × Nat) : Nat → St × Nat
  | 0 => q
  | f + 1 => if (inn al fl a q f).2 < fl.length then (lay1 al a f (fl.getD (inn al fl a q f).2 0) (inn al fl a q f).1, (inn al fl a q f).2 + 1) else inn al fl a q f
def out (al : List Int) (fl : List Nat) (s : St) : Nat → St × Nat
  | 0 => (s, 0)
  | i + 1 => inn al fl (al.getD i 0) (out al fl s i) (fN (out al fl s i).1 (al.getD i 0))
theorem inn_go {al : List Int} {fl : List Nat} {a : Int} {q : St × Nat} {f : Nat} (h : (inn al fl a q f).2 < fl.length) : inn al fl a q (f + 1) = (lay1 al a f (fl.getD (inn al fl a q f).2 0) (inn al fl a q f).1, (inn al fl a q f).2 + 1) := by rw [inn, if_pos h]
theorem inn_stuck {al : List Int} {fl : List Nat} {a : Int} {q : St × Nat} {f : Nat} (h : ¬ (inn al fl a q f).2 < fl.length) : ∀ n, f ≤ n → inn al fl a q n = inn al fl a q f
  | 0, hn => by rw [show f = 0 by omega]
  | n + 1, hn => by
    by_cases e : f = n + 1
    · rw [e]
    · have ih := inn_stuck h n (by omega)
      rw [inn, ih, if_neg h]
theorem fN_le (s : St) (a : Int) : fN s a ≤ 15 := by
  unfold fN
  split
  · omega
  · split
    · exact Hdr.obF_le _
    · omega
/-- What is kept by laying fields: who is an object, the slots. -/
structure Alike (s s' : St) : Prop where
  bs : s'.bs = s.bs
  c : s'.c = s.c
  ks : s'.ks = s.ks
  ws : s'.ws.length = s.ws.length
theorem Alike.refl (s : St) : Alike s s := ⟨rfl, rfl, rfl, rfl⟩
theorem Alike.trans {a b c : St} (h : Alike a b) (k : Alike b c) : Alike a c := ⟨k.bs.trans h.bs, k.c.trans h.c, k.ks.trans h.ks, k.ws.trans h.ws⟩
theorem lay1_alike (al : List Int) (a : Int) (f x : Nat) (s : St) : Alike s (lay1 al a f x s) := by
  unfold lay1
  split
  · exact ⟨rfl, rfl, rfl, by simp [stS]⟩
  · exact Alike.refl s
theorem inn_alike (al : List Int) (fl : List Nat) (a : Int) (q : St × Nat) : ∀ f, Alike q.1 (inn al fl a q f).1
  | 0 => Alike.refl _
  | f + 1 => by
    rw [inn]
    split
    · exact (inn_alike al fl a q f).trans (lay1_alike ..)
    · exact inn_alike al fl a q f
theorem out_alike (al : List Int) (fl : List Nat) (s : St) : ∀ i, Alike s (out al fl s i).1
  | 0 => Alike.refl _
  | i + 1 => (out_alike al fl s i).trans (inn_alike ..)
theorem Alike.objL {s s' : St} (h : Alike s s') : objL s' = objL s := by
  have e : bnI s' = bnI s := by
    funext a
    unfold bnI bn
    rw [h.bs]
  unfold Hp.objL Hp.pkA Hp.nSl Hp.pk
  rw [e, h.c, h.ks]
/-- Numbers of two bytes that came in, below S. -/
def WordsP (S : Nat) (W : World) (p : Option Addr) (fl : List Nat) : Prop := ∀ j, j < fl.length → ∃ b off, p = some ⟨b, off, none⟩ ∧ b < S ∧ W.cell? ⟨b, off + j, none⟩ = some (.int .u16 (fl.getD j 0 : Nat)) ∧ fl.getD j 0 < 65536
theorem WordsP.below {S : Nat} {W W' : World} {p : Option Addr} {fl : List Nat} (h : WordsP S W p fl) (hb : Below S W W') : WordsP S W' p fl := fun j hj => by
  obtain ⟨b, off, e, hb', h0, h1⟩ := h j hj
  exact ⟨b, off, e, hb', (hb.cell (p := ⟨b, off + j, none⟩) hb').trans h0, h1⟩

/-- What Made leaves: a heap that is new. -/
structure Hg (w w' : World) (H : Nat) (d : Ids) (s : St) (m : Nat) : Prop where
  is : Is w' H d s m
  bel : Below w.heap.size w w'
  new : ∀ k, Mine H d k → w.heap.size ≤ k
  hm : m ≤ 50000
  all : (objL s).length ≤ 1000
def s0 (c : Cfg) (n nc : Nat) (l : List (Nat × Nat × Bool)) : St := madeS (st0 c n nc) (l.take 40)
def sM (c : Cfg) (n nc : Nat) (l : List (Nat × Nat × Bool)) (fl : List Nat) : St := (out (objL (s0 c n nc l)) fl (s0 c n nc l) (objL (s0 c n nc l)).length).1

theorem out_bnI {al : List Int} {fl : List Nat} {s : St} {i : Nat} {a : Int} : bnI (out al fl s i).1 a = bnI s a := by
  unfold bnI bn
  rw [(out_alike al fl s i).bs]
theorem lay1_eq (al : List Int) (a : Int) (f x : Nat) (s : St) (v : Int) (hv : lvV al x = v) : (if sE s a (f : Nat) v = 0 then stS s a.toNat ((f : Nat) : Int).toNat v.toNat else s) = lay1 al a f x s := by
  unfold lay1
  rw [hv, Int.toNat_natCast]
set_option maxRecDepth 100000 in
set_option maxHeartbeats 4000000 in
theorem mk_any (S : Nat) (c : Cfg) (n nc : Nat) (pa : Option Addr) (ca : Nat) (l : List (Nat × Nat × Bool)) (pf : Option Addr) (cf : Nat) (fl : List Nat) (w : World) (ht : Tabs w) (hn : (little c).b * (little c).wd = (n : Int)) (hnc : (little c).ce = (nc : Int)) (hS : S ≤ w.heap.size) (hl : ThingsP S w pa l) (hla : l.length ≤ maxLen) (hf : WordsP S w pf fl) (hfl : fl.length ≤ maxLen) :
    Calls Tryz.prog 10 #[(.agg #[.int .i64 c.b, .int .i64 c.wd, .int .i64 c.m, .int .i64 c.r, .int .i64 c.ce, .int .i64 c.lg, .int .i64 c.st]), .slice pa l.length ca, .slice pf fl.length cf] w fun e w' => ∃ H d m, e = .returned (.pointer (some ⟨H, 0, none⟩)) ∧ Hg w w' H d (sM (little c) n nc l fl) m := by
  unfold maxLen at hfl
  unfold sM
  obtain ⟨s, hs⟩ : ∃ s, s0 (little c) n nc l = s := ⟨_, rfl⟩
  rw [hs]
  have HSS : Hid (madeS (st0 (little c) n nc) (l.take 40) = s) := Lib.hid hs
  clear hs
  have HT := Lib.hid ht
  have HTH := Lib.hid hl
  have HF := Lib.hid hf
  have HR := Lib.hid (little_right c)
  obtain ⟨nc', hnc', hnc3⟩ := Sw.little_ce' c
  have h64 : nc ≤ 64 := by omega
  have HNC := Lib.hid hnc
  have HN := Lib.hid hn
  clear ht hl hf hnc hn hnc' hnc3 nc'
  go_enter Tryz.func10, Tryz.ntmps10
  go_wp2_with fail
  refine (little_any c _).mono ?_
  rintro e w1 ⟨rfl, hb1⟩
  have HB1 := Lib.hid (show Below w.heap.size w w1 from ((Below.refl _ _).alloc (Nat.le_refl _) _).trans (hb1.mono (by simp)))
  clear hb1
  go_wp2_with fail
  refine (made_any S (little c) n nc pa ca l w1 (HT.out.later HB1.out) HR.out HN.out HNC.out (by omega) (Nat.le_trans hS HB1.out.size) (HTH.out.below (HB1.out.mono hS)) hla).mono ?_
  rintro e w2 ⟨H, M, base, d, i, m, rfl, hmad⟩
  have hsm := hmad.sm
  rw [HSS.out] at hmad hsm
  have HALL : Hid ((objL s).length ≤ 1000) := Lib.hid (by
    unfold Hp.objL
    rw [Hp.pkA_eq]
    exact Nat.le_trans (List.length_filter_le _ _) hsm.all)
  have HMD := Lib.hid hmad
  have HTB := Lib.hid hmad.bo.tb
  have HOB := Lib.hid (objects_any w2 hmad.bo.is hmad.bo.tb)
  have HFW := Lib.hid (HF.out.below ((HB1.out.trans (hmad.bel.mono HB1.out.size)).mono hS))
  clear hmad hsm HTH HF HSS
  go_wp2_with fail
  refine HOB.out.mono ?_
  rintro e w3 ⟨p, cap, rfl, ho, hb3⟩
  have HT0 : Hid (Tn w3 H d w3 d s m) := Lib.hid (Tn.refl (HMD.out.bo.is.later hb3))
  have HT3 := Lib.hid (HTB.out.later hb3)
  have HB3 := Lib.hid (show Below w.heap.size w w3 from (HB1.out.trans (HMD.out.bel.mono HB1.out.size)).trans (hb3.mono (Nat.le_trans HB1.out.size HMD.out.bel.size)))
  have HRD := Lib.hid (show ∀ (W : World) (d' : Ids) (s' : St) (m' : Nat), Tn w3 H d W d' s' m' → Rd W p (objL s) from fun W d' s' m' hT => (Rd.of_owns ho).chg hT.chg (fun g hg e => by have := HMD.out.bo.is.lt e; have := (owns_lt ho hg).1; omega))
  have HFP := Lib.hid (show ∀ (W : World) (d' : Ids) (s' : St) (m' : Nat), Tn w3 H d W d' s' m' → WordsP S W pf fl from fun W d' s' m' hT => HFW.out.below (((hb3.mono (Nat.le_trans hS (Nat.le_trans HB1.out.size HMD.out.bel.size))).trans (hT.chg.below (fun k hk => by have := HMD.out.g1 k hk; have := HB1.out.size; omega) (by have := HB3.out.size; omega)))))
  have hw1 := HB1.out.size
  clear HFW ho hb3 HB1 HOB
  have HIT := Lib.hid (HT0.out.is)
  go_wp2
  go_loopw [10, 11] (fun x y wr => ∃ (i : Nat) (d' : Ids) (m' : Nat), i ≤ (objL s).length ∧ x = .int .i64 ((out (objL s) fl s i).2 : Int) ∧ y = .int .i64 (i : Int) ∧ (out (objL s) fl s i).2 ≤ fl.length ∧ m' ≤ m + 40 * i ∧ Tn w3 H d wr d' (out (objL s) fl s i).1 m') (fun _ y _ => (objL s).length - (intOf y).toNat)
  case atStart => exact ⟨0, d, m, Nat.zero_le _, rfl, rfl, Nat.zero_le _, by omega, HT0.out⟩
  case round =>
    obtain ⟨i, d', m', hi, rfl, rfl, hkl, hm', hT⟩ := hrel
    have HTN := Lib.hid hT
    have hmb := HMD.out.hm
    have hal := HALL.out
    clear hT HT0
    by_cases hlt : i < (objL s).length
    · have i0 : (0 : Int) ≤ (i : Int) := Int.natCast_nonneg _
      have i1 : (i : Int) < ((objL s).length : Int) := by omega
      obtain ⟨g, off, hp, hc⟩ := (HRD.out _ _ _ _ HTN.out).at hlt
      have HOU : Hid (out (objL s) fl s (i + 1) = inn (objL s) fl ((objL s).getD i 0) (out (objL s) fl s i) (fN (out (objL s) fl s i).1 ((objL s).getD i 0))) := Lib.hid rfl
      obtain ⟨qq, hqq⟩ : ∃ qq, out (objL s) fl s i = qq := ⟨_, rfl⟩
      obtain ⟨si, ki⟩ := qq
      rw [hqq] at HTN HOU hkl ⊢
      obtain ⟨a, ha⟩ : ∃ a, (objL s).getD i 0 = a := ⟨_, rfl⟩
      rw [ha] at hc HOU
      subst hp
      have HFI := Lib.hid (fields_any a wr HTN.out.is (HTN.out.tabs HIT.out HT3.out) (by omega))
      have hn15 := fN_le si a
      generalize fN si a = n at *
      simp only at HTN hkl ⊢
      have HAA := Lib.hid ha
      have HQ := Lib.hid hqq
      clear ha hqq
      go_wp2_with (go_at_call 26; refine HFI.out.mono ?_; rintro e w4 ⟨rfl, hT4⟩; obtain ⟨d4, hT5⟩ := HTN.out.to hT4; have HT5 := Lib.hid hT5; clear hT4 hT5)
      have HKL := Lib.hid hkl
      clear hkl
      go_loopw [10, 14] (fun x y wr => ∃ (f : Nat) (d' : Ids) (m' : Nat), f ≤ n ∧ x = .int .i64 ((inn (objL s) fl a (si, ki) f).2 : Int) ∧ y = .int .i64 (f : Int) ∧ (inn (objL s) fl a (si, ki) f).2 ≤ fl.length ∧ m' ≤ m + 40 * i + 1 + 2 * f ∧ Tn w3 H d wr d' (inn (objL s) fl a (si, ki) f).1 m') (fun _ y _ => n - (intOf y).toNat)
      case atStart => exact ⟨0, d4, _, Nat.zero_le _, rfl, rfl, HKL.out, by omega, HT5.out⟩
      case round =>
        clear HTN HT5 hc HFI HKL
        obtain ⟨f, d5, m5, hfn, rfl, rfl, hkl, hm5, hT⟩ := hrel
        have HGO := Lib.hid (inn_go (al := objL s) (fl := fl) (a := a) (q := (si, ki)) (f := f))
        have HST := Lib.hid (inn_stuck (al := objL s) (fl := fl) (a := a) (q := (si, ki)) (f := f))
        obtain ⟨qq, hqq⟩ : ∃ qq, inn (objL s) fl a (si, ki) f = qq := ⟨_, rfl⟩
        obtain ⟨sf, kf⟩ := qq
        rw [hqq] at hT hkl HGO HST ⊢
        simp only at hT hkl ⊢
        have HTN := Lib.hid hT
        have HQQ := Lib.hid hqq
        have f0 : (0 : Int) ≤ (f : Int) := Int.natCast_nonneg _
        have k0 : (0 : Int) ≤ (kf : Int) := Int.natCast_nonneg _
        clear hT hqq
        by_cases hf1 : f < n
        · have f1 : (f : Int) < (n : Int) := by omega
          by_cases hk1 : kf < fl.length
          · have k1 : (kf : Int) < (fl.length : Int) := by omega
            obtain ⟨b, fo, hpf, _, hcf, hx⟩ := HFP.out _ _ _ _ HTN.out kf hk1
            obtain ⟨_, _, hp2, hci⟩ := (HRD.out _ _ _ _ HTN.out).at hlt
            cases hp2
            rw [HAA.out] at hci
            subst hpf
            have HGG := Lib.hid (HGO.out hk1)
            obtain ⟨x, hxx⟩ : ∃ x, fl.getD kf 0 = x := ⟨_, rfl⟩
            rw [hxx] at hcf hx HGG
            clear hxx
            have HSTO := Lib.hid (fun (v : Int) => storeF_any a (f : Nat) v wr HTN.out.is (HTN.out.tabs HIT.out HT3.out) (by omega))
            have HFN := Lib.hid (show ∀ (v : Int) (w' : World), lvV (objL s) x = v → To wr w' H d5 (if sE sf a (f : Nat) v = 0 then stS sf a.toNat ((f : Nat) : Int).toNat v.toNat else sf) (m5 + 2) → ∃ d6, Tn w3 H d w' d6 (inn (objL s) fl a (si, ki) (f + 1)).1 (m5 + 2) from fun v w' hv hT => by
              rw [lay1_eq _ _ _ _ _ v hv] at hT
              rw [HGG.out]
              exact HTN.out.to hT)
            have HK2 : Hid ((inn (objL s) fl a (si, ki) (f + 1)).2 = kf + 1) := Lib.hid (by rw [HGG.out])
            clear HGG HGO HST
            by_cases h4 : 0 < x % 4
            · have hz : ((x : Int) % 4 > 0) := by omega
              obtain ⟨j, hj, hjj⟩ : ∃ j : Nat, (x : Int) / 4 % ((objL s).length : Int) = (j : Int) ∧ x / 4 % (objL s).length = j := ⟨_, by simp, rfl⟩
              have hjl : j < (objL s).length := by rw [← hjj]; exact Nat.mod_lt _ (by omega)
              obtain ⟨_, _, hp3, hcj⟩ := (HRD.out _ _ _ _ HTN.out).at hjl
              cases hp3
              have HV : Hid (lvV (objL s) x = (objL s).getD j 0) := Lib.hid (by rw [lvV, if_pos h4, hjj])
              obtain ⟨v, hv⟩ : ∃ v, (objL s).getD j 0 = v := ⟨_, rfl⟩
              rw [hv] at hcj HV
              have jj0 : (0 : Int) ≤ (j : Int) := Int.natCast_nonneg _
              have jj1 : (j : Int) < ((objL s).length : Int) := by omega
              clear hv hjj
              go_wp2_with (go_at_call 27; refine (HSTO.out _).mono ?_; rintro e w5 ⟨rfl, hT6⟩; obtain ⟨d6, hT7⟩ := HFN.out _ _ HV.out hT6; have HT7 := Lib.hid hT7; clear hT6 hT7)
              go_roundw
              case rel => exact ⟨f + 1, d6, _, by omega, by rw [HK2.out]; go_num, by go_num, by rw [HK2.out]; exact hk1, by omega, HT7.out⟩
              case measure => simp [intOf]; omega
            · have hz : ¬ (0 < (x : Int) % 4) := by omega
              have HV : Hid (lvV (objL s) x = 0) := Lib.hid (by rw [lvV, if_neg h4])
              go_wp2_with (go_at_call 27; refine (HSTO.out _).mono ?_; rintro e w5 ⟨rfl, hT6⟩; obtain ⟨d6, hT7⟩ := HFN.out _ _ HV.out hT6; have HT7 := Lib.hid hT7; clear hT6 hT7)
              go_roundw
              case rel => exact ⟨f + 1, d6, _, by omega, by rw [HK2.out]; go_num, by go_num, by rw [HK2.out]; exact hk1, by omega, HT7.out⟩
              case measure => simp [intOf]; omega
          · have k1 : ¬ (kf : Int) < (fl.length : Int) := by omega
            have HE := Lib.hid (HST.out hk1 n (by omega))
            go_wp2
            refine ⟨⟨i + 1, d5, m5, by omega, by rw [HOU.out, HE.out], by go_num, by rw [HOU.out, HE.out]; exact hkl, by omega, by rw [HOU.out, HE.out]; exact HTN.out⟩, by simp [intOf]; omega⟩
        · have f1 : ¬ (f : Int) < (n : Int) := by omega
          have HE : Hid (inn (objL s) fl a (si, ki) n = (sf, kf)) := Lib.hid (by rw [← HQQ.out, show f = n by omega])
          go_wp2
          go_roundw
          case rel => exact ⟨i + 1, d5, m5, by omega, by rw [HOU.out, HE.out], by go_num, by rw [HOU.out, HE.out]; exact hkl, by omega, by rw [HOU.out, HE.out]; exact HTN.out⟩
          case measure => simp [intOf]; omega
    · have i1 : ¬ (i : Int) < ((objL s).length : Int) := by omega
      obtain rfl : i = (objL s).length := by omega
      go_wp2
      go_ret
      exact ⟨H, rfl, d', m', HTN.out.is, HB3.out.trans (HTN.out.chg.below (fun k hk => by have := HMD.out.g1 k hk; have := HB3.out.size; omega) HB3.out.size), fun k hk => (HTN.out.grow k hk).elim (fun e => by have := HMD.out.g1 k e; have := HB3.out.size; omega) (fun e => by have := HB3.out.size; omega), by omega, by rw [(out_alike _ _ _ _).objL]; exact HALL.out⟩
end Go.Proofs.YtpcgmkchflmcmaaGreatDoor.Tr

namespace Go.Proofs.YtpcgmkchflmcmaaGreatDoor.Tr
open Go.RowKit Go.Shelf
open Class (below_drewN)
open Blk (Cfg allP kAt little little_any little_right)
open Bits (SetIs TzTab)
open Hp (Ids St Wf Is To Mine bn bnI bnI_nat objL not_mine pkA_len objects_any NewRow fields_any storeF_any fN fE sE stS st0)
open Sw (ThingsP thAt)
open Go.Proofs.YtpcgmkchflmcmaaGreatDoor.Row (Chg Rd Rd0 rowB rowB_none cell_of_block frozen_of_block other same cellsZ cellsZ_length cellsZ_at owns_block owns_chg owns_lt owns_base owns_cell owns_slice)
open Go.Proofs.YtpcgmkchflmcmaaGreatDoor.Addr (Tabs)

/-- A literal row of numbers. -/
theorem rd_lit (W : World) (l : List Int) (_ : 0 < l.length) : Rd (W.alloc (.cells (cellsZ l).toArray 3)) (some ⟨W.heap.size, 0, none⟩) l :=
  .inr ⟨W.heap.size, 0, rfl, fun j hj => by
    rw [World.cell?_alloc_new, Nat.zero_add, List.getElem?_toArray]
    exact cellsZ_at l hj⟩
/-- A heap that lies above a world. -/
structure Lv (w wr : World) (H : Nat) (d : Ids) (s : St) (m : Nat) : Prop where
  is : Is wr H d s m
  bel : Below w.heap.size w wr
  new : ∀ k, Mine H d k → w.heap.size ≤ k
section
variable {w wr w' : World} {H : Nat} {d d' : Ids} {s s' : St} {m m' : Nat}
theorem Hg.lv (h : Hg w wr H d s m) : Lv w wr H d s m := ⟨h.is, h.bel, h.new⟩
theorem Lv.later (h : Lv w wr H d s m) (hb : Below wr.heap.size wr w') : Lv w w' H d s m := ⟨h.is.later hb, h.bel.trans (hb.mono h.bel.size), h.new⟩
theorem Lv.tn (h : Lv w wr H d s m) (hT : Tn wr H d w' d' s' m') : Lv w w' H d' s' m' :=
  ⟨hT.is, h.bel.trans (hT.chg.below h.new h.bel.size), fun k hk => (hT.grow k hk).elim (h.new k) (fun e => Nat.le_trans h.bel.size e)⟩
theorem Lv.tabs (h : Lv w wr H d s m) (ht : Tabs w) : Tabs wr := ht.later h.bel
theorem Lv.ask (h : Lv w wr H d s m) (ht : Tabs w) (hz : TzTab w) (hvb : vB ≤ w.heap.size) (hm : m + 40 * (objL s).length < 800000) {pr : Option Addr} {R : List Int} (hrd : Rd0 wr pr R) (hrow : ∀ g, rowB pr g → 0 < R.length → g < wr.heap.size ∧ ¬ Mine H d g) (hl : R.length ≤ maxLen) : Ask wr H d s m pr R :=
  ⟨h.is, h.tabs ht, hz.below h.bel (by unfold vB at hvb; omega), hm, hrd, hrow, hl, Nat.le_trans hvb h.bel.size, fun k hk => Nat.le_trans hvb (h.new k hk)⟩
end

theorem Hg.from {w w0 wr : World} {H : Nat} {d : Ids} {s : St} {m : Nat} (h : Hg w0 wr H d s m) (hb : Below w.heap.size w w0) : Lv w wr H d s m :=
  ⟨h.is, hb.trans (h.bel.mono hb.size), fun k hk => Nat.le_trans hb.size (h.new k hk)⟩
/-- A row that is written out, asked from there. -/
theorem Lv.lit {w wr : World} {H : Nat} {d : Ids} {s : St} {m : Nat} (h : Lv w wr H d s m) (ht : Tabs w) (hz : TzTab w) (hvb : vB ≤ w.heap.size) (hm : m + 40 * (objL s).length < 800000) (l : List Int) (hl : 0 < l.length) (hl2 : l.length ≤ 1000) :
    Ask (wr.alloc (.cells (cellsZ l).toArray 3)) H d s m (some ⟨wr.heap.size, 0, none⟩) l :=
  (h.later ((Below.refl _ _).alloc (Nat.le_refl _) _)).ask ht hz hvb hm (rd_lit wr l hl).rd0 (fun g hg _ => by
    obtain rfl : wr.heap.size = g := by simpa [rowB] using hg
    exact ⟨by simp, not_mine h.is (Nat.le_refl _)⟩) (by unfold maxLen; omega)

def exC : Cfg := ⟨0, 0, 0, 0, 0, 0, 0⟩
def exT : List (Nat × Nat × Bool) := [(1, 0, false), (1, 0, false)]
def exM : St := sM (little exC) 16 0 exT [5, 0]
theorem exC_n : (little exC).b * (little exC).wd = ((16 : Nat) : Int) ∧ (little exC).ce = ((0 : Nat) : Int) := by decide
set_option maxRecDepth 100000 in
theorem ex_obj : objL exM = [1, 3] ∧ fs exM 1 = [3] ∧ fs exM 3 = [0] ∧ bnI exM 0 = false ∧ bnI exM 1 = true ∧ bnI exM 3 = true := by decide +kernel
theorem ex_from3 {a : Int} (h : Rch exM [3] a) : a = 3 := by
  induction h with
  | root h1 _ => simpa using h1
  | step h1 h2 h3 ih =>
    rw [ih, ex_obj.2.2.1] at h2
    rw [List.mem_singleton.1 h2, ex_obj.2.2.2.1] at h3
    cases h3
open Classical in
theorem ex_reach : rcL exM [1] = [1, 3] := by
  have r1 : Rch exM [1] 1 := .root (by simp) ex_obj.2.2.2.2.1
  have r3 : Rch exM [1] 3 := .step r1 (by rw [ex_obj.2.1]; simp) ex_obj.2.2.2.2.2
  unfold rcL
  rw [ex_obj.1, List.filter_cons, if_pos (by simpa using r1), List.filter_cons, if_pos (by simpa using r3)]
  rfl
open Classical in
theorem ex_garbage : gbL exM [3] = [1] := by
  have r1 : ¬ Rch exM [3] 1 := fun h => by have := ex_from3 h; omega
  have r3 : Rch exM [3] 3 := .root (by simp) ex_obj.2.2.2.2.2
  unfold gbL
  rw [ex_obj.1, List.filter_cons, if_pos (by simpa using r1), List.filter_cons, if_neg (by simpa using r3)]
  rfl
end Go.Proofs.YtpcgmkchflmcmaaGreatDoor.Tr

namespace Go.Proofs.YtpcgmkchflmcmaaGreatDoor.Tr
open Go.RowKit Go.Shelf
open Class (below_drewN)
open Blk (Cfg allP kAt little little_any little_right)
open Bits (SetIs TzTab)
open Hp (Ids St Wf Is To Mine bn bnI bnI_nat objL not_mine pkA_len objects_any NewRow fields_any storeF_any fN fE sE stS st0)
open Sw (ThingsP thAt)
open Go.Proofs.YtpcgmkchflmcmaaGreatDoor.Row (Chg Rd Rd0 rowB rowB_none cell_of_block frozen_of_block other same cellsZ cellsZ_length cellsZ_at owns_block owns_chg owns_lt owns_base owns_cell owns_slice same_any)
open Go.Proofs.YtpcgmkchflmcmaaGreatDoor.Addr (Tabs)

set_option maxRecDepth 100000 in
set_option maxHeartbeats 2000000 in
theorem awake_any (w : World) (ht : Tabs w) (hz : TzTab w) (hvb : vB ≤ w.heap.size) : Calls Tryz.prog 9 #[] w fun e w' => e = .returned (.bool true) ∧ Below w.heap.size w w' := by
  have hb0 : Below w.heap.size w ((w.alloc (.cells #[.int .u8 1, .int .u8 0, .bool false, .int .u8 1, .int .u8 0, .bool false] 59)).alloc (.cells #[.int .u16 5, .int .u16 0] 60)) := ((Below.refl _ _).alloc (Nat.le_refl _) _).alloc (by simp) _
  have hth : ThingsP (w.heap.size + 2) ((w.alloc (.cells #[.int .u8 1, .int .u8 0, .bool false, .int .u8 1, .int .u8 0, .bool false] 59)).alloc (.cells #[.int .u16 5, .int .u16 0] 60)) (some ⟨w.heap.size, 0, none⟩) exT := fun j hj => by
    refine ⟨w.heap.size, 0, rfl, by omega, ?_⟩
    match j, hj with
    | 0, _ => exact ⟨by simp [thAt, exT], by simp [thAt, exT], by simp [thAt, exT], by simp [thAt, exT], by simp [thAt, exT]⟩
    | 1, _ => exact ⟨by simp [thAt, exT], by simp [thAt, exT], by simp [thAt, exT], by simp [thAt, exT], by simp [thAt, exT]⟩
  have hwo : WordsP (w.heap.size + 2) ((w.alloc (.cells #[.int .u8 1, .int .u8 0, .bool false, .int .u8 1, .int .u8 0, .bool false] 59)).alloc (.cells #[.int .u16 5, .int .u16 0] 60)) (some ⟨w.heap.size + 1, 0, none⟩) [5, 0] := fun j hj => by
    refine ⟨w.heap.size + 1, 0, rfl, by omega, ?_⟩
    match j, hj with
    | 0, _ => exact ⟨by rw [World.cell?_alloc_at _ _ _ _ (by simp)]; rfl, by decide⟩
    | 1, _ => exact ⟨by rw [World.cell?_alloc_at _ _ _ _ (by simp)]; rfl, by decide⟩
  have HM := Lib.hid (mk_any (w.heap.size + 2) exC 16 0 (some ⟨w.heap.size, 0, none⟩) 2 exT (some ⟨w.heap.size + 1, 0, none⟩) 2 [5, 0] _ (ht.later hb0) exC_n.1 exC_n.2 (by simp) hth (by simp [exT, maxLen]) hwo (by simp [maxLen]))
  have HB0 := Lib.hid hb0
  have HT := Lib.hid ht
  have HZ := Lib.hid hz
  clear hb0 hth hwo ht hz
  go_enter Tryz.func9, Tryz.ntmps9
  go_wp2_with fail
  refine HM.out.mono ?_
  rintro e w2 ⟨H, d, m, rfl, hg⟩
  have hg : Hg _ w2 H d exM m := hg
  have hlv := hg.from HB0.out
  have hN : (objL exM).length = 2 := by rw [ex_obj.1]; rfl
  have hm := hg.hm
  have HL := Lib.hid hlv
  have HR1 := Lib.hid (reach_any (some ⟨w2.heap.size, 0, none⟩) 1 [1] _ (hlv.lit HT.out HZ.out hvb (by omega) [1] (by simp) (by simp)))
  rw [ex_reach] at HR1
  have HLIT := Lib.hid (fun (W : World) (d' : Ids) (m' : Nat) (h : Lv w W H d' exM m') (hm' : m' ≤ 60000) => by
    have h1 := garbage_any (some ⟨W.heap.size, 0, none⟩) 1 [3] _ (h.lit HT.out HZ.out hvb (by omega) [3] (by simp) (by simp))
    rw [ex_garbage] at h1
    exact h1)
  have HN := Lib.hid hN
  clear hg hlv hN HM HB0
  go_wp2_with fail
  refine HR1.out.mono ?_
  rintro e w3 ⟨p, cap, d3, rfl, hrd, hT, _⟩
  have HL3 := Lib.hid ((HL.out.later ((Below.refl _ _).alloc (Nat.le_refl _) _)).tn hT)
  have HS1 := Lib.hid (same_any p (some ⟨w3.heap.size, 0, none⟩) cap 2 [1, 3] _ (hrd.later ((Below.refl w3.heap.size w3).alloc (Nat.le_refl _) _)) (rd_lit w3 [1, 3] (by simp)) (by simp))
  clear hrd hT HR1 HL
  go_wp2_with fail
  refine HS1.out.mono ?_
  rintro e w4 ⟨rfl, q, hq⟩
  have HL4 : Hid (Lv w w4 H d3 exM (m + 40 * (objL exM).length)) := Lib.hid (by rw [hq]; exact HL3.out.later (below_drewN ((Below.refl w3.heap.size w3).alloc (Nat.le_refl _) (.cells (cellsZ [1, 3]).toArray 3)) q))
  have HG := Lib.hid (HLIT.out _ _ _ HL4.out (by have := HN.out; omega))
  clear HS1 HL3 hq
  go_wp2_with fail
  refine HG.out.mono ?_
  rintro e w5 ⟨p2, cap2, d5, rfl, hrd, hT, _⟩
  have HL5 := Lib.hid ((HL4.out.later ((Below.refl _ _).alloc (Nat.le_refl _) _)).tn hT)
  have HS2 := Lib.hid (same_any p2 (some ⟨w5.heap.size, 0, none⟩) cap2 1 [1] _ (hrd.later ((Below.refl w5.heap.size w5).alloc (Nat.le_refl _) _)) (rd_lit w5 [1] (by simp)) (by simp))
  clear hrd hT HG HL4
  go_wp2_with fail
  refine HS2.out.mono ?_
  rintro e w6 ⟨rfl, q2, hq⟩
  have HB6 : Hid (Below w.heap.size w w6) := Lib.hid (by rw [hq]; exact (HL5.out.later (below_drewN ((Below.refl w5.heap.size w5).alloc (Nat.le_refl _) (.cells (cellsZ [1]).toArray 3)) q2)).bel)
  clear hq HS2 HL5
  go_wp2_with fail
  go_ret
  exact ⟨rfl, HB6.out⟩
end Go.Proofs.YtpcgmkchflmcmaaGreatDoor.Tr

namespace Go.Proofs.YtpcgmkchflmcmaaGreatDoor.Tr
open Go.RowKit Go.Shelf
open Class (below_drewN)
open Blk (Cfg allP kAt little little_any little_right)
open Bits (SetIs TzTab)
open Hp (Ids St Wf Is To Mine bn bnI bnI_nat objL not_mine pkA_len objects_any NewRow fields_any storeF_any fN fE sE stS st0 wpList_append_row)
open Sw (ThingsP thAt)
open Go.Proofs.YtpcgmkchflmcmaaGreatDoor.Row (Chg Rd Rd0 rowB rowB_none cell_of_block frozen_of_block other same cellsZ cellsZ_length cellsZ_at owns_block owns_chg owns_lt owns_base owns_cell owns_slice same_any)
open Go.Proofs.YtpcgmkchflmcmaaGreatDoor.Addr (Tabs)

def gtB (a b c : Nat) : Bool := decide (40 < a) || (decide (200 < b) || decide (40 < c))
set_option maxRecDepth 100000 in
set_option maxHeartbeats 1000000 in
theorem great_any (c : Cfg) (pa : Option Addr) (ca la : Nat) (pf : Option Addr) (cf lf : Nat) (pr : Option Addr) (cr lr : Nat) (w : World) :
    Calls Tryz.prog 8 #[.agg #[.int .i64 c.b, .int .i64 c.wd, .int .i64 c.m, .int .i64 c.r, .int .i64 c.ce, .int .i64 c.lg, .int .i64 c.st, .slice pa la ca, .slice pf lf cf], .slice pr lr cr] w fun e w' => e = .returned (.bool (gtB la lf lr)) ∧ Below w.heap.size w w' := by
  have hb : Below w.heap.size w (w.alloc (.cells #[.int .i64 c.b, .int .i64 c.wd, .int .i64 c.m, .int .i64 c.r, .int .i64 c.ce, .int .i64 c.lg, .int .i64 c.st, .slice pa la ca, .slice pf lf cf] 27)) := (Below.refl _ _).alloc (Nat.le_refl _) _
  by_cases h1 : 40 < la
  · have e1 : (40 : Int) < (la : Int) := by omega
    have e : gtB la lf lr = true := by simp [gtB, h1]
    rw [e]
    go_enter Tryz.func8, Tryz.ntmps8
    go_wp2
    go_ret
    exact ⟨rfl, hb⟩
  · have e1 : ¬ (40 : Int) < (la : Int) := by omega
    by_cases h2 : 200 < lf
    · have e2 : (200 : Int) < (lf : Int) := by omega
      have e : gtB la lf lr = true := by simp [gtB, h2]
      rw [e]
      go_enter Tryz.func8, Tryz.ntmps8
      go_wp2
      go_ret
      exact ⟨rfl, hb⟩
    · have e2 : ¬ (200 : Int) < (lf : Int) := by omega
      by_cases h3 : 40 < lr
      · have e3 : (40 : Int) < (lr : Int) := by omega
        have e : gtB la lf lr = true := by simp [gtB, h3]
        rw [e]
        go_enter Tryz.func8, Tryz.ntmps8
        go_wp2
        go_ret
        exact ⟨rfl, hb⟩
      · have e3 : ¬ (40 : Int) < (lr : Int) := by omega
        have e : gtB la lf lr = false := by simp [gtB]; omega
        rw [e]
        go_enter Tryz.func8, Tryz.ntmps8
        go_wp2
        go_ret
        exact ⟨rfl, hb⟩
theorem gtB_false {a b c : Nat} (h : gtB a b c = false) : a ≤ 40 ∧ b ≤ 200 ∧ c ≤ 40 := by
  simp [gtB] at h
  omega
set_option maxRecDepth 100000 in
set_option maxHeartbeats 1000000 in
theorem in_any (p : Option Addr) (cp : Nat) (l : List Int) (x : Int) (w : World) (hp : Rd0 w p l) (hl : l.length ≤ 1048576) :
    Calls Tryz.prog 18 #[.slice p l.length cp, .int .i64 x] w fun e w' => e = .returned (.bool (decide (x ∈ l))) ∧ w = w' := by
  have HP := Lib.hid hp
  clear hp
  go_enter Tryz.func18, Tryz.ntmps18
  go_wp2
  go_loopw [5] (fun i wr => ∃ c : Nat, c ≤ l.length ∧ i = .int .i64 c ∧ x ∉ l.take c ∧ w = wr) (fun i _ => l.length - (intOf i).toNat)
  case atStart => exact ⟨0, by omega, rfl, by simp, rfl⟩
  case round =>
    obtain ⟨c, hc, rfl, hno, rfl⟩ := hrel
    have HNO := Lib.hid hno
    clear hno
    by_cases hlt : c < l.length
    · obtain ⟨b, off, rfl, h1⟩ := HP.out c hlt
      have i0 : (0 : Int) ≤ (c : Int) := Int.natCast_nonneg _
      have i1 : (c : Int) < (l.length : Int) := by omega
      have hget : l[c]? = some (l.getD c 0) := by rw [List.getD_eq_getElem?_getD]; simp [hlt]
      have hmem : l.getD c 0 ∈ l := List.mem_of_getElem? hget
      have HGET := Lib.hid hget
      have HMEM := Lib.hid hmem
      clear hget hmem
      generalize l.getD c 0 = y at *
      by_cases he : y = x
      · subst he
        have hyy : (y == y) = true := by simp
        have hd : decide (y ∈ l) = true := by simpa using HMEM.out
        go_wp2
        go_ret
        exact ⟨by rw [hd]; rfl, rfl⟩
      · have hyx : (y == x) = false := by simpa using he
        have hn2 : x ∉ l.take (c + 1) := by
          rw [List.take_add_one, HGET.out]
          simp only [Option.toList_some, List.mem_append, List.mem_singleton]
          exact fun h => h.elim HNO.out (fun e => he e.symm)
        have HN2 := Lib.hid hn2
        clear hn2
        go_wp2
        go_roundw
        case rel => exact ⟨c + 1, by omega, by go_num, HN2.out, trivial⟩
        case measure => simp [intOf]; omega
    · have hd : decide (x ∈ l) = false := by
        have := HNO.out
        rw [List.take_of_length_le (by omega)] at this
        simpa using this
      go_wp2
      go_ret
      exact ⟨by rw [hd]; rfl, rfl⟩

end Go.Proofs.YtpcgmkchflmcmaaGreatDoor.Tr
