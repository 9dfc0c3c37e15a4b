/-
  The law ListsPlay answers true, for every config, row of classes and row of what is done.
-/
import Derived.Test.YtooojajagkbhiaaDoorLisW
namespace Go.Proofs.YtooojajagkbhiaaDoor.Lis
open Go.RowKit
open Class (isB isB_true isB_false is_any)
open Blk (Cfg TbIs little little_any little_right little_b box7 BytesP kL kAt cellsK blk ownB rowB ownV_no ownV_yes owner_any)
open Go.Proofs.YtooojajagkbhiaaDoor.Row (Chg Rd Rd0)
open Arena (ArIs)
open Go.Proofs.YtooojajagkbhiaaDoor.Addr (Tabs adrB_true)

set_option maxRecDepth 100000 in
set_option maxHeartbeats 4000000 in
theorem plays_walk (c : Cfg) (pa pb : Option Addr) (ca cb : Nat) (za : List Nat) (zb : List (Bool × Int)) (w : World) (ht : Tabs w) (ha : BytesP w.heap.size w pa za) (hb : DeedsL w.heap.size w pb zb) (hza : za.length ≤ 140737488351232) :
    Calls Tryd.prog 3 #[(.agg #[.int .i64 c.b, .int .i64 c.wd, .int .i64 c.m, .int .i64 c.r, .int .i64 c.ce, .int .i64 c.lg, .int .i64 c.st]), .slice pa za.length ca, .slice pb zb.length cb] w fun e w' => e = .returned (.bool true) ∧ Below w.heap.size w w' := by
  have HT := Lib.hid ht
  have HA := Lib.hid ha
  have HB := Lib.hid hb
  have HR := Lib.hid (little_right c)
  obtain ⟨hb0, hb1⟩ := little_b c
  clear ht ha hb
  go_enter Tryd.func3, Tryd.ntmps3
  go_wp2_with fail
  refine (little_any c _).mono ?_
  rintro e w1 ⟨rfl, hb⟩
  have HW := Lib.hid (fun W2 hW => box7 (d := little c) (W2 := W2) (by simpa using hb) hW)
  obtain ⟨hc1, hf1⟩ := bcell hb
  have hz1 : w.heap.size < w1.heap.size := by have := hb.size; simp at this; omega
  clear hb
  generalize hL : little c = d at *
  clear hL
  by_cases hbig : 100 < zb.length
  · have h1 : (100 : Int) < (zb.length : Int) := by omega
    go_wp2_with fail
    generalize hW : World.setCell _ _ _ = W2
    obtain ⟨hbox, hb2⟩ := HW.out W2 hW
    refine (awake_any _ (HT.out.later hb2)).mono ?_
    rintro e w3 ⟨rfl, hb3⟩
    have HF := Lib.hid (hb2.trans (hb3.mono hb2.size))
    clear hW HW hc1 hf1 hz1 hb2 hbox hb3
    go_wp2
    go_ret
    exact ⟨rfl, HF.out⟩
  have h1 : (zb.length : Int) ≤ 100 := by omega
  have hd1 : decide ((100 : Int) < (zb.length : Int)) = false := by simpa using h1
  go_wp2_with fail
  generalize hW : World.setCell _ _ _ = W1
  obtain ⟨hbox, hb2⟩ := HW.out W1 hW
  clear hW HW hc1 hf1 hz1
  refine (awake_any _ (HT.out.later hb2)).mono ?_
  rintro e W2 ⟨rfl, hb3⟩
  have HB2 := Lib.hid (hb2.trans (hb3.mono hb2.size))
  have HX2 := Lib.hid (hbox.later hb3)
  have c0 := (hbox.later hb3).b0
  have c1 := (hbox.later hb3).b1
  have c2 := (hbox.later hb3).b2
  have c3 := (hbox.later hb3).b3
  have c4 := (hbox.later hb3).b4
  have c5 := (hbox.later hb3).b5
  have c6 := (hbox.later hb3).b6
  clear hb2 hb3 hbox
  go_wp2_with fail
  have hby : BytesP W2.heap.size W2 pa za := fun j hj => by
    obtain ⟨b, off, e, h1, h2, h3⟩ := HA.out j hj
    exact ⟨b, off, e, Nat.lt_of_lt_of_le h1 HB2.out.size, h2, (HB2.out.cell (p := ⟨b, off + j, none⟩) h1).trans h3⟩
  refine (made_any d pa ca za W2 (HT.out.later HB2.out) HR.out ⟨hb0, by omega⟩ hby (by omega)).mono ?_
  rintro e w6 hmd
  obtain ⟨A, G, T, L, I, J, n, capT, base, pt, rfl, hn, hh, htb, hav, hb6'⟩ := made_has hmd
  have hb6 : Below w.heap.size w w6 := HB2.out.trans (hb6'.mono HB2.out.size)
  generalize hks : kL (fun j => za.getD j 0 % 4) (min za.length 10) d.b.toNat = ks at *
  have hw2 : w.heap.size ≤ W2.heap.size := HB2.out.size
  have hpv : ∀ W7 : World, Below w6.heap.size w6 W7 → w6.heap.size < W7.heap.size → (∀ k, k < 4 → W7.cell? ⟨w6.heap.size, k, none⟩ = some (.slice none 0 0)) → (∀ k, k < 4 → W7.frozen? ⟨w6.heap.size, k, none⟩ = false) →
      Pv w.heap.size w W7 L A G T I J n base (fun _ => none) (fun _ => []) 0 W2.heap.size d ks pt capT w6.heap.size (fun _ => none) (fun _ => 0) (fun _ => []) := fun W7 hb7 hlt hce hfz =>
    ⟨⟨hh.later hb7, htb.later hb7, fun j hj => ⟨(fun e => by
        rcases e with e | e | e | ⟨i, _, e⟩
        · exact (hav j hj).1 e
        · exact (hav j hj).2.1 e
        · have := hh.lt hj; omega
        · cases e), Nat.le_trans hw2 (hav j hj).2.2⟩, .inl rfl, fun g hg => .inr (.inl hg), (fun j hj => by
        rcases hj with e | e | e | ⟨i, _, e⟩
        · have := htb.ltB; omega
        · have := (htb.ltG e).2; omega
        · omega
        · cases e), hb6.trans (hb7.mono hb6.size)⟩,
      hce, hfz, fun k _ => Rd.nil _, fun _ _ => Nat.le_refl _, (by have := htb.ltB; omega), (fun e => by have := (htb.ltG e).2; omega), (fun k _ e => by cases e), hb6.size⟩
  have HPV := Lib.hid hpv
  have HN := Lib.hid hn
  clear hmd hh htb hav hb6' hb6 hks hw2 hpv hby hn HX2 c0 c1 c2 c3 c4 c5 c6
  go_wp2_with fail
  generalize hX : World.alloc _ _ = X
  have hpx : Pv w.heap.size w X L A G T I J n base (fun _ => none) (fun _ => []) 0 W2.heap.size d ks pt capT w6.heap.size (fun _ => none) (fun _ => 0) (fun _ => []) := by
    rw [← hX]
    refine HPV.out _ ((Below.refl _ _).alloc (Nat.le_refl _) _) (by simp) (fun k hk => ?_) (fun k hk => by simp)
    have : k = 0 ∨ k = 1 ∨ k = 2 ∨ k = 3 := by omega
    rcases this with rfl | rfl | rfl | rfl <;> simp
  have HPX := Lib.hid hpx
  have HW2 := Lib.hid HB2.out.size
  clear hX hpx HPV
  generalize w6.heap.size = Hb at *
  generalize W2.heap.size = bt at *
  go_wp2_with fail
  go_loopw [11] (fun i wr => ∃ (c' : Nat) (hv : Nat → List Nat) (ps : Nat → Option Addr) (m : Nat) (hp : Nat → Option Addr) (hc : Nat → Nat), c' ≤ zb.length ∧ i = .int .i64 c' ∧ m ≤ c' ∧ (∀ k, k < 4 → ∀ b ∈ hv k, ownB d ks (b : Int) = true ∧ kAt ks (blk d (b : Int)) = k) ∧ Pv w.heap.size w wr L A G T I J n base ps hv m bt d ks pt capT Hb hp hc hv) (fun i _ => zb.length - (intOf i).toNat)
  case atStart => exact ⟨0, fun _ => [], fun _ => none, 0, fun _ => none, fun _ => 0, Nat.zero_le _, rfl, Nat.le_refl _, fun _ _ b hb => by simp at hb, HPX.out⟩
  case round =>
    clear HPX
    obtain ⟨c', hv, ps, m, hp, hc, hcl, rfl, hm, hmem, hpv⟩ := hrel
    have HP := Lib.hid hpv
    have HM := Lib.hid hmem
    clear hpv hmem
    by_cases hlt : c' < zb.length
    · obtain ⟨b, off, rfl, hbS, hw1, hw2⟩ := HB.out c' hlt
      have hc1 := (HP.out.bun.bel.cell (p := ⟨b, _, none⟩) hbS).trans hw1
      have hc2 := (HP.out.bun.bel.cell (p := ⟨b, _, none⟩) hbS).trans hw2
      have i1 : (0 : Int) ≤ (c' : Int) := Int.natCast_nonneg _
      have i2 : (c' : Int) < (zb.length : Int) := by omega
      clear hw1 hw2
      generalize zb.getD c' (false, 0) = dd at *
      obtain ⟨bb, z⟩ := dd
      simp only at hc1 hc2
      cases bb
      · by_cases hz1 : z < 0
        · have hk : isB z = false := isB_false.2 (.inl hz1)
          go_wp2_with fail
          refine (take_bad z _ hk).mono ?_
          rintro e w8 ⟨rfl, hb8⟩
          have H8 := Lib.hid (HP.out.later (Nat.le_refl _) hb8)
          clear hb8 HP
          go_wp2
          go_roundw
          case rel => exact ⟨c' + 1, hv, ps, m, hp, hc, by omega, by go_num, by omega, HM.out, H8.out⟩
          case measure => simp [intOf]; omega
        by_cases hz2 : 3 < z
        · have hk : isB z = false := isB_false.2 (.inr (by omega))
          go_wp2_with fail
          refine (take_bad z _ hk).mono ?_
          rintro e w8 ⟨rfl, hb8⟩
          have H8 := Lib.hid (HP.out.later (Nat.le_refl _) hb8)
          clear hb8 HP
          go_wp2
          go_roundw
          case rel => exact ⟨c' + 1, hv, ps, m, hp, hc, by omega, by go_num, by omega, HM.out, H8.out⟩
          case measure => simp [intOf]; omega
        obtain ⟨k, rfl⟩ : ∃ k : Nat, z = (k : Int) := ⟨z.toNat, by omega⟩
        have hk : k < 4 := by omega
        have k1 : (0 : Int) ≤ (k : Int) := Int.natCast_nonneg _
        have k2 : (k : Int) < 4 := by omega
        rcases he : hv k with _ | ⟨a, l⟩
        · go_wp2_with fail
          refine (take_nothing_bun HP.out.bun k hk he).mono ?_
          rintro e w8 ⟨rfl, hb8⟩
          have H8 := Lib.hid (HP.out.later (Nat.le_refl _) hb8)
          have hcell := H8.out.cell k hk
          rw [he, List.length_nil] at hcell
          have HE := Lib.hid he
          clear hb8 HP he
          go_wp2
          go_roundw
          case rel => exact ⟨c' + 1, hv, ps, m, hp, hc, by omega, by go_num, by omega, HM.out, H8.out⟩
          case measure => simp [intOf]; omega
        · have hg := HP.out.bun.has.gone hk he
          have HG := Lib.hid hg
          have HE := Lib.hid he
          have hlk : (hv k).length = l.length + 1 := by rw [he]; simp
          obtain ⟨g, o, hgo, hx⟩ := (HP.out.rd k hk).at (j := 0) (by rw [intsN_length]; omega)
          have hx0 : (intsN (hv k)).getD 0 0 = (a : Int) := by rw [he]; simp [intsN]
          rw [hx0, Nat.add_zero] at hx
          have hgb : g < wr.heap.size ∧ ¬ Own L A G I J ps g ∧ g ≠ Hb := ⟨World.block_lt_of_cell? wr _ hx, fun e => (HP.out.bun.av g e).1 (.inr (.inr (.inr ⟨k, hk, by rw [hgo]; rfl⟩))), fun e => HP.out.nH k hk (by rw [hgo, e]; rfl)⟩
          have hle : l.length + 1 ≤ hc k := by have := HP.out.le k hk; omega
          have hshort : l.length ≤ 100 := by have := HP.out.bun.has.le_n.2 k hk; omega
          have hrd : ∀ W, Rd W (hp k) (intsN (hv k)) → Rd W (some ⟨g, o + 1, none⟩) (intsN l) := fun W hr => .inr ⟨g, o + 1, rfl, fun j hj => by
            obtain ⟨g', o', e, hcj⟩ := hr.at (j := j + 1) (by rw [intsN_length, hlk]; rw [intsN_length] at hj; omega)
            rw [hgo] at e
            cases e
            rw [HE.out] at hcj
            simp only [intsN, List.map_cons, List.getD_cons_succ] at hcj
            rw [← Nat.add_assoc, Nat.add_right_comm] at hcj
            exact hcj⟩
          have HRD := Lib.hid hrd
          have HX := Lib.hid hx
          have HGB := Lib.hid hgb
          have HGO := Lib.hid hgo
          have HLK := Lib.hid hlk
          have htk := take_bun HP.out.bun (Nat.le_refl _) (k : Int) k a l rfl hk he
          have HTK := Lib.hid htk
          have haa : ((a : Int) != (a : Int)) = false := by simp
          clear hg he hlk hgo hx hx0 hgb hrd htk
          go_wp2_with fail
          refine HTK.out.mono ?_
          rintro e w8 ⟨rfl, ps8, hb8, hc8⟩
          have H8 := Lib.hid (HP.out.step hb8 hc8)
          have hx8 : w8.cell? ⟨g, o, none⟩ = some (.int .i64 (a : Int)) := (hc8.cell (p := ⟨g, o, none⟩) HGB.out.1 HGB.out.2.1).trans HX.out
          have hcell := H8.out.cell k hk
          rw [HLK.out, HGO.out] at hcell
          have HG8 : Hid (g < w8.heap.size ∧ ¬ Own L A G I J ps8 g ∧ g ≠ Hb) := Lib.hid ⟨Nat.lt_of_lt_of_le HGB.out.1 hc8.size, fun e => (hb8.av g e).1 (.inr (.inr (.inr ⟨k, hk, by rw [HGO.out]; rfl⟩))), HGB.out.2.2⟩
          clear hb8 hc8 HP HTK
          go_wp2_with fail
          refine (has_not H8.out.bun.has (a : Int) (fun b hb j hj hm => by
            obtain rfl : a = b := by omega
            exact HG.out.1 j hj hm)).mono ?_
          rintro e w9 ⟨rfl, q9, rfl⟩
          have H9 := Lib.hid (H8.out.later (Nat.le_refl _) (below_drewN (Below.refl _ w8) q9))
          have hfz := H9.out.fz k hk
          have HMN : Hid (∀ j, j < 4 → ∀ b ∈ upd hv k l j, ownB d ks (b : Int) = true ∧ kAt ks (blk d (b : Int)) = j) := Lib.hid fun j hj b hb => by
            refine HM.out j hj b ?_
            by_cases e : j = k
            · subst e; rw [upd_same] at hb; rw [HE.out]; exact List.mem_cons_of_mem _ hb
            · rw [upd_other _ _ e] at hb; exact hb
          have hrd9 : Rd (w8.drewN q9) (some ⟨g, o + 1, none⟩) (intsN l) := HRD.out _ (H9.out.rd k hk)
          have HRD9 := Lib.hid hrd9
          clear H8 hrd9
          by_cases hc1' : hc k = 1
          · have hl0 : l = [] := List.eq_nil_of_length_eq_zero (by omega)
            subst hl0
            have hF := H9.out.lay (Nat.le_refl _) hk (p' := some ⟨g, o, none⟩) (c' := 0) (l := []) (.inr ⟨g, o, rfl, fun j hj => by simp [intsN] at hj⟩) (by simp) (fun g' hg' => by cases hg'; exact ⟨HG8.out.2.1, HG8.out.2.2, HG8.out.1⟩)
            have HF := Lib.hid hF
            rw [hc1', List.length_nil] at hcell
            rw [List.length_nil] at HF
            clear hF H9 HRD9
            go_wp2
            go_roundw
            case rel => exact ⟨c' + 1, upd hv k [], ps8, m, _, _, by omega, by go_num, by omega, HMN.out, HF.out⟩
            case measure => simp [intOf]; omega
          · have hF := H9.out.lay (Nat.le_refl _) hk (p' := some ⟨g, o + 1, none⟩) (c' := hc k - 1) (l := l) HRD9.out (by omega) (fun g' hg' => by cases hg'; exact ⟨HG8.out.2.1, HG8.out.2.2, HG8.out.1⟩)
            have HF := Lib.hid hF
            have hc2' : ¬ hc k - 1 = 0 := by omega
            clear hF H9 HRD9
            go_wp2
            go_roundw
            case rel => exact ⟨c' + 1, upd hv k l, ps8, m, _, _, by omega, by go_num, by omega, HMN.out, HF.out⟩
            case measure => simp [intOf]; omega
      · have how := Blk.owner_any z wr HP.out.bun.tb (HT.out.later HP.out.bun.bel) HR.out
        cases ho : ownB d ks z
        · rw [ownV_no ho] at how
          have HOW := Lib.hid how
          have HO := Lib.hid ho
          clear how ho
          go_wp2_with fail
          refine HOW.out.mono ?_
          rintro e w7 ⟨rfl, hb7⟩
          have H7 := Lib.hid (HP.out.later (Nat.le_refl _) hb7)
          clear hb7 HP HOW
          go_wp2_with fail
          refine (put_no _ H7.out.bun.has H7.out.bun.tb (HT.out.later H7.out.bun.bel) HR.out z HO.out).mono ?_
          rintro e w8 ⟨rfl, hb8⟩
          have H8 := Lib.hid (H7.out.later (Nat.le_refl _) hb8)
          clear hb8 H7
          go_wp2_with fail
          refine (has_not H8.out.bun.has z (fun b hb j hj hmb => by
            have := (HM.out j hj b hmb).1
            rw [← hb, HO.out] at this
            cases this)).mono ?_
          rintro e w9 ⟨rfl, q9, rfl⟩
          have H9 := Lib.hid (H8.out.later (Nat.le_refl _) (below_drewN (Below.refl _ w8) q9))
          clear H8
          go_wp2
          go_roundw
          case rel => exact ⟨c' + 1, hv, ps, m, hp, hc, by omega, by go_num, by omega, HM.out, H9.out⟩
          case measure => simp [intOf]; omega
        · obtain ⟨_, ha1, ha2⟩ := adrB_true.1 (Blk.ownB_true.1 ho).1
          obtain ⟨a, rfl⟩ : ∃ a : Nat, z = (a : Int) := ⟨z.toNat, by omega⟩
          rw [ownV_yes ho] at how
          obtain ⟨k, hkk⟩ : ∃ k, kAt ks (blk d (a : Int)) = k := ⟨_, rfl⟩
          have hk : k < 4 := by rw [← hkk]; exact HP.out.bun.tb.kLt _
          rw [hkk] at how
          obtain ⟨bk, hbk⟩ : ∃ bk, blk d (a : Int) = bk := ⟨_, rfl⟩
          rw [hbk] at how
          have han : a ≤ n := by have := HN.out; omega
          have k1 : (0 : Int) ≤ (k : Int) := Int.natCast_nonneg _
          have k2 : (k : Int) < 4 := by omega
          have HOW := Lib.hid how
          have HO := Lib.hid ho
          have HKK := Lib.hid hkk
          clear how ho hkk ha1 ha2 hbk
          go_wp2_with fail
          refine HOW.out.mono ?_
          rintro e w7 ⟨rfl, hb7⟩
          have H7 := Lib.hid (HP.out.later (Nat.le_refl _) hb7)
          clear hb7 HP HOW
          have hlen7 : (hv k).length ≤ 100 := by have := H7.out.bun.has.le_n.2 k hk; omega
          by_cases hin : a ∈ hv k
          · go_wp2_with fail
            refine (put_no_bun H7.out.bun (HT.out.later H7.out.bun.bel) HR.out (a : Int) a k rfl HO.out hk hin HN.out).mono ?_
            rintro e w8 ⟨rfl, hb8⟩
            have H8 := Lib.hid (H7.out.later (Nat.le_refl _) hb8)
            have hcell := H8.out.cell k hk
            have hI := in_any (hp k) (hc k) (intsN (hv k)) (a : Int) w8 (H8.out.rd k hk).rd0 (by rw [intsN_length]; omega)
            rw [intsN_length, show decide ((a : Int) ∈ intsN (hv k)) = true by simpa using (mem_ints (hv k) a).2 hin] at hI
            have HI := Lib.hid hI
            clear hb8 H7 hI hin
            go_wp2_with fail
            refine HI.out.mono ?_
            rintro e w9 ⟨rfl, rfl⟩
            go_wp2
            go_roundw
            case rel => exact ⟨c' + 1, hv, ps, m, hp, hc, by omega, by go_num, by omega, HM.out, H8.out⟩
            case measure => simp [intOf]; omega
          · have hput := put_bun H7.out.bun (Nat.le_refl _) (by omega) (HT.out.later H7.out.bun.bel) HR.out (a : Int) a k rfl HO.out HKK.out HN.out (fun j hj hm => by
              have := (HM.out j hj a hm).2
              rw [HKK.out] at this
              subst this
              exact hin hm)
            have HPUT := Lib.hid hput
            have HIN := Lib.hid hin
            clear hput hin
            go_wp2_with fail
            refine HPUT.out.mono ?_
            rintro e w8 ⟨rfl, ps8, hb8, hc8⟩
            have H8 := Lib.hid (H7.out.step hb8 hc8)
            have hcell := H8.out.cell k hk
            have hI := in_any (hp k) (hc k) (intsN (hv k)) (a : Int) w8 (H8.out.rd k hk).rd0 (by rw [intsN_length]; omega)
            rw [intsN_length, show decide ((a : Int) ∈ intsN (hv k)) = false by simpa using fun e => HIN.out ((mem_ints (hv k) a).1 e)] at hI
            have HI := Lib.hid hI
            clear hb8 hc8 H7 hI HPUT
            go_wp2_with fail
            refine HI.out.mono ?_
            rintro e w9 ⟨rfl, rfl⟩
            go_wp2_with fail
            refine (has_yes H8.out.bun.has a k hk (by rw [upd_same]; exact List.mem_cons_self ..) han).mono ?_
            rintro e w9 ⟨rfl, q9, rfl⟩
            have H9 := Lib.hid (H8.out.later (Nat.le_refl _) (below_drewN (Below.refl _ w8) q9))
            have hfi := first_any (hp k) (hc k) (intsN (hv k)) (a : Int) _ (H9.out.rd k hk) (by rw [intsN_length]; omega)
            rw [intsN_length] at hfi
            have HFI := Lib.hid hfi
            clear H8 HI hfi
            go_wp2_with fail
            refine HFI.out.mono ?_
            rintro e w10 ⟨p10, c10, rfl, ho10, hb10⟩
            have H10 := Lib.hid (H9.out.later (Nat.le_refl _) hb10)
            have hll : (a :: hv k).length = (hv k).length + 1 := by simp
            have hin1 : ((a : Int) :: intsN (hv k)) = intsN (a :: hv k) := by simp [intsN]
            rw [hin1, ← hll] at ho10
            have hF := H10.out.lay (Nat.le_refl _) hk (p' := p10) (c' := c10) (l := a :: hv k) (Rd.of_owns (base := (w8.drewN q9).heap.size) (cap := c10) (by rw [intsN_length]; exact ho10)) (by have := Row.owns_cap ho10; omega) (fun g hg => by
              have hlo := Row.owns_lt ho10 hg
              exact ⟨fun e => by have := H9.out.bun.has.lt e; omega, fun e => by have := H9.out.ltH; omega, hlo.2⟩)
            rw [hll] at hF
            have HF := Lib.hid hF
            have hcell10 := H10.out.cell k hk
            have hfz10 := H10.out.fz k hk
            have HMN : Hid (∀ j, j < 4 → ∀ b ∈ upd hv k (a :: hv k) j, ownB d ks (b : Int) = true ∧ kAt ks (blk d (b : Int)) = j) := Lib.hid fun j hj b hb => by
              by_cases e : j = k
              · subst e
                rw [upd_same] at hb
                rcases List.mem_cons.1 hb with e | e
                · rw [e]; exact ⟨HO.out, HKK.out⟩
                · exact HM.out j hj b e
              · rw [upd_other _ _ e] at hb; exact HM.out j hj b hb
            clear ho10 hb10 hF hll hin1 H9 HFI H10
            go_wp2
            go_roundw
            case rel => exact ⟨c' + 1, upd hv k (a :: hv k), ps8, m + 1, _, _, by omega, by go_num, by omega, HMN.out, HF.out⟩
            case measure => simp [intOf]; omega
    · have hlen : ∀ k, k < 4 → (hv k).length ≤ 100 := fun k hk => by have := HP.out.bun.has.le_n.2 k hk; omega
      have hm2 : m ≤ 100 := by omega
      have HLEN := Lib.hid hlen
      obtain rfl : c' = zb.length := by omega
      generalize wr = wx at *
      clear HM hlen hlt hcl hm
      go_wp2_with fail
      go_loopw [20] (fun i wr => ∃ (k m : Nat), k ≤ 4 ∧ i = .int .i64 k ∧ m ≤ 100 + 100 * k ∧ Pv w.heap.size w wr L A G T I J n base ps hv m bt d ks pt capT Hb hp hc hv) (fun i _ => 4 - (intOf i).toNat)
      case atStart => exact ⟨0, m, by omega, rfl, by omega, HP.out⟩
      case round =>
        clear HP hm2
        obtain ⟨k, m, hk4, rfl, hm, hpv⟩ := hrel
        have HP := Lib.hid hpv
        clear hpv
        by_cases hlt : k < 4
        · have k1 : (0 : Int) ≤ (k : Int) := Int.natCast_nonneg _
          have k2 : (k : Int) < 4 := by omega
          have hcell := HP.out.cell k hlt
          have hHl := HP.out.ltH
          have hlk := HLEN.out k hlt
          have HSM : Hid (∀ (W : World) (p : Option Addr) (c' : Nat), Rd W p (intsN (hv k)) → Rd W (hp k) (intsN (hv k)) → Calls Tryd.prog 15 #[.slice p (hv k).length c', .slice (hp k) (hv k).length (hc k)] W fun e w' => e = .returned (.bool true) ∧ ∃ q, w' = W.drewN q) := Lib.hid fun W p c' h1 h2 => by
            have := Row.same_any p (hp k) c' (hc k) (intsN (hv k)) W h1 h2 (by rw [intsN_length]; omega)
            rw [intsN_length] at this
            exact this
          have hllb : (((hv k).length : Int) != ((hv k).length : Int)) = false := by simp
          go_wp2_with fail
          have HK0 := Lib.hid (show wr.drew.cell? ⟨Hb, k, none⟩ = some (.slice (hp k) (hv k).length (hc k)) from hcell)
          go_region_held3 (fun W => W.cell? ⟨Hb, k, none⟩ = some (.slice (hp k) (hv k).length (hc k)))
            (first | exact HK0.out | assumption | exact (hb3.cell (p := ⟨Hb, k, none⟩) hHl).trans hcell | exact hcell4 | exact (hb5.cell (p := ⟨Hb, k, none⟩) hH4).trans hcell4)
            (first
              | (go_at_call 16; refine (list_held (HP.out.bun.has.drewN _) (by omega) k hlt 10000 (by omega)).mono ?_; rintro e w3 ⟨p3, c3, rfl, ho3, hb3'⟩; have hb3 : Below wr.heap.size wr w3 := ⟨hb3'.os, hb3'.tape, hb3'.output, hb3'.size, hb3'.block⟩; have H3 := Lib.hid (HP.out.later (Nat.le_refl _) hb3); have hrd3 := Lib.hid (Rd.of_owns (l := intsN (hv k)) (base := (wr.drewN 1).heap.size) (cap := c3) (by rw [cellsZ_ints, intsN_length]; exact ho3)))
              | (go_at_call 15; refine (HSM.out _ p3 c3 hrd3.out (H3.out.rd k hlt)).mono ?_; rintro e w4 ⟨rfl, q4, rfl⟩; have H4 := Lib.hid (H3.out.later (Nat.le_refl _) (below_drewN (Below.refl _ w3) q4)); have hcell4 := H4.out.cell k hlt; have hH4 := H4.out.ltH)
              | (go_at_call 17; refine (len_z _ H4.out.bun.has (k : Int) k (hv k).length rfl hlt rfl).mono ?_; rintro e w5 ⟨rfl, hb5⟩; have H5 := Lib.hid (H4.out.later (Nat.le_refl _) hb5)))
          have HP5 := Lib.hid H5.out
          clear HSM hllb HK0 hrd3 hcell hcell4 hH4 hHl H3 H4 H5 hb3 hb3' ho3 hb5 HP
          generalize w5 = wy at *
          go_wp2_with fail
          go_loopw [21, 22] (fun nv i wr => ∃ (q m' : Nat), q ≤ (hv k).length ∧ i = .int .i64 ((q : Int) - 1) ∧ nv = .int .i64 (((hv k).drop q).headD 0 : Nat) ∧ m' + q ≤ 100 + 100 * k + (hv k).length ∧ Pv w.heap.size w wr L A G T I J n base ps hv m' bt d ks pt capT Hb hp hc hv) (fun _ i _ => (intOf i + 1).toNat)
          case atStart => exact ⟨(hv k).length, m, Nat.le_refl _, rfl, by rw [List.drop_length]; rfl, by omega, HP5.out⟩
          case round =>
            clear HP5 hm
            obtain ⟨q, m', hq, rfl, rfl, hm', hpv⟩ := hrel
            have HP := Lib.hid hpv
            clear hpv
            rcases q with _ | p
            · rw [show (((0 : Nat) : Int) - 1) = -1 from rfl]
              simp only [List.drop_zero]
              have hfc := first_z wr HP.out.bun.has (k : Int) k _ rfl hlt rfl
              generalize (hv k).headD 0 = y at *
              have HF := Lib.hid hfc
              have hyy : ((y : Int) != (y : Int)) = false := by simp
              clear hfc
              go_wp2_with fail
              refine HF.out.mono ?_
              rintro e w8 ⟨rfl, hb8⟩
              have H8 := Lib.hid (HP.out.later (Nat.le_refl _) hb8)
              clear hb8 HP HF
              go_wp2
              go_roundw
              case rel => exact ⟨k + 1, m', by omega, by go_num, by omega, H8.out⟩
              case measure => simp [intOf]; omega
            · rw [show (((p + 1 : Nat) : Int) - 1) = (p : Int) by omega]
              have hpl : p < (hv k).length := by omega
              obtain ⟨a, ha, hga⟩ : ∃ a, (hv k).drop p = a :: (hv k).drop (p + 1) ∧ (intsN (hv k)).getD p 0 = (a : Int) := ⟨(hv k)[p], List.drop_eq_getElem_cons hpl, by simp [intsN, List.getD_eq_getElem?_getD, hpl]⟩
              have hsp : hv k = (hv k).take p ++ a :: (hv k).drop (p + 1) := by rw [← ha, List.take_append_drop]
              have hhd : ((hv k).drop p).headD 0 = a := by rw [ha]; rfl
              obtain ⟨g, o, hgo, hx⟩ := (HP.out.rd k hlt).at (j := p) (by rw [intsN_length]; omega)
              rw [hga] at hx
              have hcell := HP.out.cell k hlt
              rw [hgo] at hcell
              have HGB : Hid (g < wr.heap.size ∧ ¬ Own L A G I J ps g) := Lib.hid ⟨World.block_lt_of_cell? wr _ hx, fun e => (HP.out.bun.av g e).1 (.inr (.inr (.inr ⟨k, hlt, by rw [hgo]; rfl⟩)))⟩
              have hld := load_link wr HP.out.bun.has (by omega) hlt hsp
              have HLD := Lib.hid hld
              have HHD := Lib.hid hhd
              have HGO := Lib.hid hgo
              have HX := Lib.hid hx
              have i1 : (0 : Int) ≤ (p : Int) := Int.natCast_nonneg _
              have i2 : (p : Int) < ((hv k).length : Int) := by omega
              generalize ((hv k).drop (p + 1)).headD 0 = y at *
              have hyy : ((y : Int) != (y : Int)) = false := by simp
              clear ha hga hsp hhd hgo hld
              go_wp2_with fail
              refine HLD.out.mono ?_
              rintro e w8 ⟨x, rfl, hx1, hx2, hx3, hh8, hc8⟩
              have H8 := Lib.hid (HP.out.step (HP.out.bun.step (Nat.le_refl _) hh8 hc8 (fun _ e => .inl e)) hc8)
              have hx8 : w8.cell? ⟨g, o + p, none⟩ = some (.int .i64 (a : Int)) := (hc8.cell (p := ⟨g, o + p, none⟩) HGB.out.1 HGB.out.2).trans HX.out
              have hcell8 := H8.out.cell k hlt
              rw [HGO.out] at hcell8
              have hn := Hdr.next_any x w8 hx1
              rw [hx2, hx3] at hn
              have HNX := Lib.hid hn
              clear hn hx1 hx2 hx3 hh8 hc8 HP HLD hx hcell
              go_wp2_with fail
              refine HNX.out.mono ?_
              rintro e w9 ⟨rfl, rfl⟩
              go_wp2
              go_roundw
              case rel => exact ⟨p, m' + 1, by omega, by go_num, by rw [HHD.out], by omega, H8.out⟩
              case measure => simp [intOf] <;> omega
        · obtain rfl : k = 4 := by omega
          have hk1 : isB 4 = false := isB_false.2 (.inr (by omega))
          have hk2 : isB (-1) = false := isB_false.2 (.inl (by omega))
          go_wp2_with fail
          refine (len_bad 4 _ hk1).mono ?_
          rintro e w8 ⟨rfl, hb8⟩
          have H8 := Lib.hid (HP.out.later (Nat.le_refl _) hb8)
          clear hb8 HP
          go_wp2_with fail
          refine (first_bad (-1) _ hk2).mono ?_
          rintro e w9 ⟨rfl, hb9⟩
          have H9 := Lib.hid (H8.out.later (Nat.le_refl _) hb9)
          clear hb9 H8
          go_wp2
          go_ret
          exact ⟨rfl, H9.out.bun.bel⟩
end Go.Proofs.YtooojajagkbhiaaDoor.Lis
