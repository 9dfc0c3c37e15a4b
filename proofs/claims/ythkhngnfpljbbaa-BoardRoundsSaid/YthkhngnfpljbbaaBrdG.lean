/-
  The law BoardPlays answers true, for every number of mutators and whatever is done.
-/
import Derived.Test.YthkhngnfpljbbaaBrdF
import Derived.Deep.CutBlock
import Derived.Deep.DeepCutAuto
namespace Go.Proofs.Ythkhngnfpljbbaa.Brd
open Go.RowKit
open Go.Proofs.Ythkhngnfpljbbaa.Row

theorem take_snoc (l : List Int) {c : Nat} (h : c < l.length) : l.take c ++ [l.getD c 0] = l.take (c + 1) := by
  rw [List.take_add_one, List.getD_eq_getElem?_getD]
  simp [h]
theorem filter_step (l : List Int) (m : Int) {c : Nat} (h : c < l.length) : (l.take (c + 1)).filter (fun z => z != m) = (l.take c).filter (fun z => z != m) ++ if l.getD c 0 = m then [] else [l.getD c 0] := by
  rw [← take_snoc l h, List.filter_append]
  by_cases e : l.getD c 0 = m
  · rw [if_pos e, e]; simp
  · rw [if_neg e]; generalize l.getD c 0 = y at *; simp [e]

set_option maxRecDepth 100000 in
set_option maxHeartbeats 8000000 in
theorem plays_walk (s : Nat) (hs : s < 256) (pa : Option Addr) (ca : Nat) (la : List (Bool × Int)) (w : World) (ha : DeedsP w.heap.size w pa la) (hla : la.length ≤ maxLen) :
    Calls Try.prog 3 #[.int .u8 s, .slice pa la.length ca] w fun e w' => e = .returned (.bool true) ∧ Below w.heap.size w w' := by
  unfold maxLen at hla
  obtain ⟨i0, hinf, hz0, hz1, hz2⟩ := info_parts infoInt
  have HA := Lib.hid ha
  clear ha
  by_cases hbig : 200 < la.length
  · have h1 : (200 : Int) < (la.length : Int) := by omega
    go_enter Try.func3, Try.ntmps3
    go_wp2_with fail
    refine (awake_any _).mono ?_
    rintro e w1 ⟨rfl, hb1⟩
    have HB1 := Lib.hid hb1
    clear hb1
    go_wp2
    go_ret
    exact ⟨rfl, HB1.out⟩
  have h1 : (la.length : Int) ≤ 200 := by omega
  have hd1 : decide ((200 : Int) < (la.length : Int)) = false := by simpa using h1
  obtain ⟨n, hn1, hn2, hn⟩ : ∃ k : Nat, 1 ≤ k ∧ k ≤ 8 ∧ 1 + (s : Int) % 8 = (k : Int) := ⟨1 + s % 8, by omega, by omega, by omega⟩
  go_enter Try.func3, Try.ntmps3
  go_wp2_with fail
  refine (new_good n _ (by omega) _ hn1 (by omega)).mono ?_
  rintro e w1 ⟨rfl, hs1, hb1, _⟩
  have HO : Hid (Pl w.heap.size w w1 n 0 0 (fun _ => false) [] none 0 0) := Lib.hid ⟨Bd.new hs1 hb1, ⟨by simp [cellsZ], .inl ⟨rfl, rfl⟩⟩, by omega⟩
  clear hs1 hb1
  generalize hB : w.heap.size = B at *
  have HS : Hid (B = w.heap.size) := Lib.hid hB.symm
  clear hB hn
  go_wp2_with fail
  go_loopw [8, 9, 10, 11] (fun kv cv ov iv wr => ∃ (c : Nat) (ct kd : Int) (ow : Nat → Bool) (l : List Int) (p : Option Addr) (L cap : Nat), c ≤ la.length ∧ 0 ≤ ct ∧ ct ≤ c ∧ iv = .int .i64 c ∧ kv = .int .i64 kd ∧ cv = .int .i64 ct ∧ ov = .slice p L cap ∧ Ln n ow l ∧ Pl B w wr n kd ct ow l p L cap) (fun _ _ _ iv _ => la.length - (intOf iv).toNat)
  case atStart => exact ⟨0, 0, 0, _, [], none, 0, 0, Nat.zero_le _, by omega, by omega, rfl, rfl, rfl, rfl, Ln.none n, HO.out⟩
  case round =>
    clear HO
    obtain ⟨c, ct, kd, ow, l, p, L, cap, hc, hct0, hct1, rfl, rfl, rfl, rfl, hln, hst⟩ := hrel
    have HL := Lib.hid hln
    have HP := Lib.hid hst
    have hL8 := hst.len
    clear hln
    by_cases hlt : c < la.length
    · obtain ⟨b, off, rfl, hbS, hw1, hw2⟩ := HA.out c hlt
      have hc1 := (hst.bd.bel.cell (p := ⟨b, _, none⟩) hbS).trans hw1
      have hc2 := (hst.bd.bel.cell (p := ⟨b, _, none⟩) hbS).trans hw2
      have HW1 := Lib.hid hw1
      clear hst hw1 hw2
      have i1 : (0 : Int) ≤ (c : Int) := Int.natCast_nonneg _
      have i2 : (c : Int) < (la.length : Int) := by omega
      generalize la.getD c (false, 0) = d at *
      obtain ⟨a, x⟩ := d
      simp only at hc1 hc2 HW1
      go_upto_block 2 with (fail)
      go_cut [8, 9, 10] (fun s8 s9 s10 wx => ∃ (ct kd : Int) (ow : Nat → Bool) (l : List Int) (p : Option Addr) (L cap : Nat), 0 ≤ ct ∧ ct ≤ (c : Int) + 1 ∧ s8 = .int .i64 kd ∧ s9 = .int .i64 ct ∧ s10 = .slice p L cap ∧ Ln n ow l ∧ Pl B w wx n kd ct ow l p L cap)
      case rest =>
        clear HP HL
        obtain ⟨ct2, kd2, ow2, l2, p2, L2, cap2, hct0, hct1, rfl, rfl, rfl, hln, hst⟩ := hcut
        have HL2 := Lib.hid hln
        have HP2 := Lib.hid hst
        clear hln hst
        obtain ⟨t, ht, ht2⟩ : ∃ t, allB n ow2 = t ∧ ((L2 : Int) == 0) = t := ⟨_, rfl, by
          rw [HL2.out.nil, Bool.eq_iff_iff]
          have e := HP2.out.eq
          simp only [beq_iff_eq]
          rw [← List.length_eq_zero_iff]
          omega⟩
        have hall := HP2.out.all (Nat.le_of_eq HS.out)
        rw [ht] at hall
        have HALL := Lib.hid hall
        have htt : (t != t) = false := by simp
        have hkk : (kd2 != kd2) = false := by simp
        clear hall ht
        go_wp2_with fail
        refine (count_any _ HP2.out.bd.st).mono ?_
        rintro e wa ⟨rfl, rfl⟩
        go_wp2_with fail
        refine HALL.out.mono ?_
        rintro e w9 ⟨rfl, hst⟩
        have HP9 := Lib.hid hst
        clear hst HP2 HALL
        go_wp2_with fail
        clear htt ht2
        go_loop [16] (fun k => ∃ q : Nat, q ≤ 10 ∧ k = .int .i64 ((q : Int) - 1)) (fun k => (9 - intOf k).toNat)
        case atStart => exact ⟨0, by omega, rfl⟩
        case round =>
          obtain ⟨q, hq, rfl⟩ := hrel
          rcases q with _ | j
          · have i0 : ((0 : Nat) : Int) - 1 = -1 := by omega
            have HIN : Hid (decide ((-1 : Int) ∈ l2) = false) := Lib.hid (by simpa using fun h => by have := HL2.out.rng _ h; omega)
            go_wp2_with fail
            refine (pend_no (-1) _ HP9.out.bd.st (Or.inl (by decide))).mono ?_
            rintro e wa ⟨rfl, rfl⟩
            go_wp2_with fail
            refine (in_anyL _ _ _ l2 (-1) _ HP9.out.rd.rd0 HP9.out.eq (by have := HP9.out.len; omega)).mono ?_
            rintro e wa ⟨rfl, rfl⟩
            rw [HIN.out]
            go_wp2_with fail
            refine (answered_no (-1) _ HP9.out.bd.st (Or.inl (by decide))).mono ?_
            rintro e wa ⟨rfl, rfl⟩
            go_wp2
            go_round
            case rel => exact ⟨1, by omega, by go_num⟩
            case measure => simp [intOf]
          have i0 : ((j + 1 : Nat) : Int) - 1 = (j : Int) := by omega
          have j0 : (0 : Int) ≤ (j : Int) := Int.natCast_nonneg _
          by_cases hj9 : j < 9
          · have j1 : (j : Int) ≤ 8 := by omega
            by_cases hjn : j < n
            · have j2 : (j : Int) < (n : Int) := by omega
              cases hb : ow2 j with
              | true =>
                have HB := Lib.hid hb
                have HIN : Hid (decide ((j : Int) ∈ l2) = true) := Lib.hid (by simpa using (HL2.out.mem j hjn).2 hb)
                clear hb
                go_wp2_with fail
                refine (pend_open j _ HP9.out.bd.st hjn HB.out).mono ?_
                rintro e wa ⟨rfl, rfl⟩
                go_wp2_with fail
                refine (in_anyL _ _ _ l2 (j : Int) _ HP9.out.rd.rd0 HP9.out.eq (by have := HP9.out.len; omega)).mono ?_
                rintro e wa ⟨rfl, rfl⟩
                rw [HIN.out]
                go_wp2_with fail
                refine (answered_yes j true _ HP9.out.bd.st hjn HB.out).mono ?_
                rintro e wa ⟨rfl, rfl⟩
                go_wp2
                go_round
                case rel => exact ⟨j + 1 + 1, by omega, by go_num⟩
                case measure => simp [intOf]; omega
              | false =>
                have HB := Lib.hid hb
                have HIN : Hid (decide ((j : Int) ∈ l2) = false) := Lib.hid (by simpa using fun h => by have := (HL2.out.mem j hjn).1 h; rw [hb] at this; cases this)
                clear hb
                go_wp2_with fail
                refine (pend_shut j _ HP9.out.bd.st hjn HB.out).mono ?_
                rintro e wa ⟨rfl, rfl⟩
                go_wp2_with fail
                refine (in_anyL _ _ _ l2 (j : Int) _ HP9.out.rd.rd0 HP9.out.eq (by have := HP9.out.len; omega)).mono ?_
                rintro e wa ⟨rfl, rfl⟩
                rw [HIN.out]
                go_wp2_with fail
                refine (answered_yes j false _ HP9.out.bd.st hjn HB.out).mono ?_
                rintro e wa ⟨rfl, rfl⟩
                go_wp2
                go_round
                case rel => exact ⟨j + 1 + 1, by omega, by go_num⟩
                case measure => simp [intOf]; omega
            · have j2 : ¬ (j : Int) < (n : Int) := by omega
              have HIN : Hid (decide ((j : Int) ∈ l2) = false) := Lib.hid (by simpa using fun h => by have := HL2.out.rng _ h; omega)
              go_wp2_with fail
              refine (pend_no (j : Int) _ HP9.out.bd.st (Or.inr (by omega))).mono ?_
              rintro e wa ⟨rfl, rfl⟩
              go_wp2_with fail
              refine (in_anyL _ _ _ l2 (j : Int) _ HP9.out.rd.rd0 HP9.out.eq (by have := HP9.out.len; omega)).mono ?_
              rintro e wa ⟨rfl, rfl⟩
              rw [HIN.out]
              go_wp2_with fail
              refine (answered_no (j : Int) _ HP9.out.bd.st (Or.inr (by omega))).mono ?_
              rintro e wa ⟨rfl, rfl⟩
              go_wp2
              go_round
              case rel => exact ⟨j + 1 + 1, by omega, by go_num⟩
              case measure => simp [intOf]; omega
          · have j1 : ¬ (j : Int) ≤ 8 := by omega
            go_wp2
            go_roundw
            case rel => exact ⟨c + 1, ct2, kd2, ow2, l2, _, L2, _, by omega, by omega, by omega, by go_num, rfl, rfl, rfl, HL2.out, HP9.out⟩
            case measure => simp [intOf]; omega

      case first =>
        cases a with
        | true =>
          by_cases hL0 : L = 0
          · subst hL0
            obtain rfl : l = [] := List.eq_nil_of_length_eq_zero HP.out.eq
            go_wp2_with fail
            refine (HP.out.ask (Nat.le_of_eq HS.out) x (by rw [HL.out.nil]; rfl) hct0 (by omega)).mono ?_
            rintro e w2 ⟨rfl, hst⟩
            have HP2 := Lib.hid hst
            clear hst HP HL
            go_wp2_with fail
            go_loopw [10, 13] (fun ov kv wr => ∃ (d : Nat) (p : Option Addr) (cap : Nat), d ≤ n ∧ kv = .int .i64 d ∧ ov = .slice p d cap ∧ Pl B w wr n x (ct + 1) (fun m => decide (m < n) || ow m) ((List.range d).map fun k : Nat => (k : Int)) p d cap) (fun _ kv _ => n - (intOf kv).toNat)
            case atStart => exact ⟨0, p, cap, Nat.zero_le _, rfl, rfl, HP2.out⟩
            case round =>
              clear HP2
              obtain ⟨d, p, cap, hd, rfl, rfl, hst⟩ := hrel
              have HP := Lib.hid hst
              clear hst
              have k0 : (0 : Int) ≤ (d : Int) := Int.natCast_nonneg _
              by_cases hdn : d < n
              · have k1 : (d : Int) < (n : Int) := by omega
                have HBZ := Lib.hid HP.out.bd.st.ltB
                go_wp2_with (at_builtin; refine wpList_append_own_at _ rfl _ _ 28 rfl (B + 1) 3 i0 (.int .i64 0) 1 8 Try.underlying28 hinf hz0 hz1 hz2 rfl (by decide) (.slice p d cap) _ _ rfl (HP.out.alloc _) ⟨wr.heap.size, 0, none⟩ 1 1 [.int .i64 (d : Int)] rfl rfl (one_at rfl) (by simp [Value.oneCell']) (by unfold maxLen; omega) (by omega) (by have := HBZ.out; simp; omega) ?_)
                intro v' w4 hown hgrow _ hat
                obtain ⟨p', cap', rfl, hP⟩ := HP.out.push (Nat.le_of_eq HS.out) (by omega) ((Below.refl _ _).alloc (Nat.le_refl _) _) hown hgrow (by simpa using hat)
                have HP4 := Lib.hid hP
                clear hown hgrow hat hP HP
                go_wp2
                go_roundw
                case rel => exact ⟨d + 1, p', cap', by omega, by go_num, by go_num, by rw [List.range_succ, List.map_append]; exact HP4.out⟩
                case measure => simp [intOf]; omega
              · have k1 : ¬ (d : Int) < (n : Int) := by omega
                have HDN := Lib.hid (show d = n by omega)
                go_wp2_with fail
                go_meet
                case rel => exact ⟨ct + 1, x, _, _, p, d, cap, by omega, by omega, rfl, rfl, rfl, by rw [HDN.out]; exact Ln.full n ow, HP.out⟩
          · have hLp : (0 : Int) < (L : Int) := by omega
            go_wp2_with fail
            refine (HP.out.askNo (Nat.le_of_eq HS.out) x (by rw [HL.out.nil, Bool.eq_false_iff]; simp only [ne_eq, beq_iff_eq]; intro e; have := HP.out.eq; rw [e] at this; exact hL0 this.symm)).mono ?_
            rintro e w2 ⟨rfl, hst⟩
            have HP2 := Lib.hid hst
            clear hst HP
            go_wp2_with fail
            go_meet
            case rel => exact ⟨ct, kd, ow, l, p, L, cap, by omega, by omega, rfl, rfl, rfl, HL.out, HP2.out⟩
        | false =>
          by_cases hx0 : x < 0
          · have m0 : x < 0 := by omega
            go_wp2_with fail
            refine (ans_no x _ HP.out.bd.st (by omega)).mono ?_
            rintro e wa ⟨rfl, rfl⟩
            go_wp2_with fail
            go_meet
            case rel => exact ⟨ct, kd, ow, l, p, L, cap, by omega, by omega, rfl, rfl, rfl, HL.out, HP.out⟩
          by_cases hxn : (n : Int) ≤ x
          · have m1 : ¬ x < 0 := hx0
            have m0 : ¬ x < (n : Int) := by omega
            go_wp2_with fail
            refine (ans_no x _ HP.out.bd.st (by omega)).mono ?_
            rintro e wa ⟨rfl, rfl⟩
            go_wp2_with fail
            go_meet
            case rel => exact ⟨ct, kd, ow, l, p, L, cap, by omega, by omega, rfl, rfl, rfl, HL.out, HP.out⟩
          obtain ⟨m, rfl⟩ := Int.eq_ofNat_of_zero_le (show 0 ≤ x by omega)
          have hmn : m < n := by omega
          have m0 : (0 : Int) ≤ (m : Int) := Int.natCast_nonneg _
          have m1 : (m : Int) < (n : Int) := by omega
          have m2 : ¬ (m : Int) < 0 := by omega
          cases hb : ow m with
          | false =>
            have HB := Lib.hid hb
            have HIN : Hid (decide ((m : Int) ∈ l) = false) := Lib.hid (by simpa using fun h => by have := (HL.out.mem m hmn).1 h; rw [hb] at this; cases this)
            clear hb hx0 hxn
            go_wp2_with fail
            refine (in_anyL _ _ _ l (m : Int) _ HP.out.rd.rd0 HP.out.eq (by omega)).mono ?_
            rintro e wa ⟨rfl, rfl⟩
            rw [HIN.out]
            go_wp2_with fail
            refine (ans_shut m _ HP.out.bd.st hmn HB.out).mono ?_
            rintro e wa ⟨rfl, rfl⟩
            go_wp2_with fail
            go_meet
            case rel => exact ⟨ct, kd, ow, l, p, L, cap, by omega, by omega, rfl, rfl, rfl, HL.out, HP.out⟩
          | true =>
            have HB := Lib.hid hb
            have HIN : Hid (decide ((m : Int) ∈ l) = true) := Lib.hid (by simpa using (HL.out.mem m hmn).2 hb)
            clear hb hx0 hxn
            go_wp2_with fail
            refine (in_anyL _ _ _ l (m : Int) _ HP.out.rd.rd0 HP.out.eq (by omega)).mono ?_
            rintro e wa ⟨rfl, rfl⟩
            rw [HIN.out]
            go_wp2_with fail
            refine (HP.out.answer (Nat.le_of_eq HS.out) m hmn HB.out).mono ?_
            rintro e w3 ⟨rfl, hst⟩
            have HP3 := Lib.hid hst
            clear hst HP HIN
            go_wp2_with fail
            go_loopw [14, 15] (fun lv kv wr => ∃ (d : Nat) (p2 : Option Addr) (L2 cap2 : Nat), d ≤ L ∧ L2 ≤ d ∧ kv = .int .i64 d ∧ lv = .slice p2 L2 cap2 ∧ Below w3.heap.size w3 wr ∧ wr.ownsRow w3.heap.size 3 1 (.slice p2 L2 cap2) L2 (cellsZ ((l.take d).filter fun z => z != (m : Int)))) (fun _ kv _ => L - (intOf kv).toNat)
            case atStart => exact ⟨0, none, 0, 0, Nat.zero_le _, Nat.zero_le _, rfl, rfl, Below.refl _ _, by simp [cellsZ], .inl ⟨rfl, rfl⟩⟩
            case round =>
              obtain ⟨d, p2, L2, cap2, hd, hL2d, rfl, rfl, hbl, hown2⟩ := hrel
              have HBL := Lib.hid hbl
              have HOWN := Lib.hid hown2
              clear hbl hown2
              have k0 : (0 : Int) ≤ (d : Int) := Int.natCast_nonneg _
              by_cases hdL : d < L
              · have k1 : (d : Int) < (L : Int) := by omega
                obtain ⟨g, o, rfl, hcx⟩ := (HP3.out.later (Nat.le_of_eq HS.out) HBL.out).rd.at (j := d) (by rw [HP3.out.eq]; exact hdL)
                have hfs := filter_step l (m : Int) (c := d) (by rw [HP3.out.eq]; exact hdL)
                have hcap := owns_cap HP3.out.own
                have hcap1 := hcap.1
                unfold maxLen at hcap
                have hcap2 := hcap.2
                clear hcap
                generalize l.getD d 0 = y at *
                by_cases hy : y = (m : Int)
                · have hne : (y != (m : Int)) = false := by simpa using hy
                  rw [if_pos hy, List.append_nil] at hfs
                  have HFS := Lib.hid hfs
                  clear hfs hy
                  go_wp2
                  go_roundw
                  case rel => exact ⟨d + 1, p2, L2, cap2, by omega, by omega, by go_num, rfl, HBL.out, by rw [HFS.out]; exact HOWN.out⟩
                  case measure => simp [intOf]; omega
                · have hne : (y != (m : Int)) = true := by simpa using hy
                  rw [if_neg hy] at hfs
                  have HFS := Lib.hid hfs
                  have HSZ := Lib.hid HBL.out.size
                  have HOW : Hid ((wr.alloc (.cells #[.int .i64 y] 3)).ownsRow w3.heap.size 3 1 (.slice p2 L2 cap2) L2 (cellsZ ((l.take d).filter fun z => z != (m : Int)))) := Lib.hid (owns_block HOWN.out (fun g hg => Below.heap_alloc wr _ g (by simpa using (owns_lt HOWN.out hg).2)))
                  have HBA : Hid (Below wr.heap.size wr (wr.alloc (.cells #[.int .i64 y] 3))) := Lib.hid ((Below.refl _ wr).alloc (Nat.le_refl _) _)
                  clear hfs hy
                  go_wp2_with (at_builtin; refine wpList_append_own_at _ rfl _ _ 28 rfl w3.heap.size 3 i0 (.int .i64 0) 1 8 Try.underlying28 hinf hz0 hz1 hz2 rfl (by decide) (.slice p2 L2 cap2) _ _ rfl HOW.out ⟨wr.heap.size, 0, none⟩ 1 1 [.int .i64 y] rfl rfl (one_at rfl) (by simp [Value.oneCell']) (by unfold maxLen; omega) (by omega) (by have := HSZ.out; simp; omega) ?_)
                  intro v' w4 hown hgrow _ hat
                  obtain ⟨p', cap', rfl, hC, hR⟩ := push_row HBA.out hown hgrow (by simpa using hat)
                  have HC := Lib.hid hC
                  have HOWN4 := Lib.hid hown
                  clear hown hgrow hat hC hR
                  go_wp2
                  go_roundw
                  case rel => exact ⟨d + 1, p', L2 + 1, cap', by omega, by omega, by go_num, rfl, HBL.out.trans (HC.out.below (fun k hk => (owns_lt HOWN.out hk).1) HSZ.out), by rw [HFS.out, cellsZ_snoc]; exact HOWN4.out⟩
                  case measure => simp [intOf]; omega
              · have k1 : ¬ (d : Int) < (L : Int) := by omega
                have hlen := HP3.out.eq
                rw [List.take_of_length_le (by omega)] at HOWN
                have HP2 : Hid (Pl B w wr n kd ct (upd ow m false) (l.filter fun z => z != (m : Int)) p2 L2 cap2) := Lib.hid (by
                  have hp := HP3.out.later (Nat.le_of_eq HS.out) HBL.out
                  exact ⟨hp.bd, owns_base (by have := HP3.out.bd.st.ltB; omega) HOWN.out, by omega⟩)
                clear HP3 HOWN hlen
                go_wp2_with fail
                go_meet
                case rel => exact ⟨ct, kd, _, _, p2, L2, cap2, by omega, by omega, rfl, rfl, rfl, HL.out.less, HP2.out⟩
    · obtain rfl : c = la.length := by omega
      clear hst
      have HBL := Lib.hid HP.out.bd.bel
      go_wp2_with fail
      refine (awake_any _).mono ?_
      rintro e w5 ⟨rfl, hb5⟩
      have HB5 := Lib.hid hb5
      clear hb5
      go_wp2
      go_ret
      exact ⟨rfl, (HS.out ▸ HBL.out).trans (HB5.out.mono (HS.out ▸ HBL.out).size)⟩
end Go.Proofs.Ythkhngnfpljbbaa.Brd
