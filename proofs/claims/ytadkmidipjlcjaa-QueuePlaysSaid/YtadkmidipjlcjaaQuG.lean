/-
  The law QueuePlays answers true, whatever is done.
-/
import Derived.Test.YtadkmidipjlcjaaQuF
import Derived.Test.YtadkmidipjlcjaaQuR
import Derived.Deep.RegionLawGrows
import Derived.Deep.CutBlock
import Derived.Deep.DeepCutAuto
namespace Go.Proofs.Ytadkmidipjlcjaa.Qu
open Go.RowKit
open Go.Proofs.Ytadkmidipjlcjaa.Row

/-- How many wait in the first classes. -/
def sumN (rv : Nat → List Int) : Nat → Nat
  | 0 => 0
  | j + 1 => sumN rv j + (rv j).length
theorem sumN_four (rv : Nat → List Int) : sumN rv 4 = nAll rv := by simp [sumN, nAll]
theorem sumN_le (rv : Nat → List Int) {j : Nat} (hj : j ≤ 4) : sumN rv j ≤ nAll rv := by
  rw [← sumN_four]
  match j, hj with
  | 0, _ => simp [sumN]
  | 1, _ => simp [sumN]; omega
  | 2, _ => simp [sumN]; omega
  | 3, _ => simp [sumN]
  | 4, _ => exact Nat.le_refl _
set_option maxRecDepth 100000 in
set_option maxHeartbeats 80000000 in
theorem plays_walk (pa : Option Addr) (ca : Nat) (la : List (Nat × Int × Int)) (w : World) (ha : DeedsP w.heap.size w pa la) (hla : la.length ≤ maxLen) :
    Calls Try.prog 3 #[.slice pa la.length ca] w fun e w' => e = .returned (.bool true) ∧ Below w.heap.size w w' := by
  unfold maxLen at hla
  obtain ⟨i0, hinf, hz0, hz1, hz2⟩ := info_parts infoInt
  have HA := Lib.hid ha
  clear ha
  by_cases hbig : 200 < la.length
  · have h1 : (200 : Int) < (la.length : Int) := by omega
    go_enter Try.func3, Try.ntmps3
    go_wp2_with fail
    refine (awake_any _).mono ?_
    rintro e w1 ⟨rfl, hb1⟩
    have HB1 := Lib.hid hb1
    clear hb1
    go_wp2
    go_ret
    exact ⟨rfl, HB1.out⟩
  have h1 : (la.length : Int) ≤ 200 := by omega
  have hd1 : decide ((200 : Int) < (la.length : Int)) = false := by simpa using h1
  go_enter Try.func3, Try.ntmps3
  go_wp2_with fail
  refine (new_any _).mono ?_
  rintro e w1 ⟨rfl, hs1, hb1, hz⟩
  have HO : Hid (∀ o, o = Obj.cells #[.slice none 0 0, .slice none 0 0, .slice none 0 0, .slice none 0 0] 27 (0, 0) → Pq w.heap.size w (w1.alloc o) w.heap.size (w.heap.size + 1) (fun _ => []) (fun _ => []) 0 (fun _ => none) (fun _ => 0)) := by
    refine Lib.hid fun o ho => ?_
    subst ho
    refine ⟨⟨_, _, hs1.later ((Below.refl _ _).alloc (Nat.le_refl _) _), fun g hg e => ?_⟩, hb1.alloc (by omega) _, fun k hk => ?_, fun k hk => by rw [← hz]; simp, fun k _ => .inl ⟨rfl, rfl⟩, fun k _ => Nat.le_refl _, fun k _ _ => rfl, fun k _ => rowB_none _, fun g hg => ?_⟩
    · have h1 : g = w.heap.size + 1 := hg.elim id (fun ⟨_, _, e⟩ => absurd e (rowB_none _))
      have h2 : g = w.heap.size := e.elim id (fun ⟨_, _, e⟩ => absurd e (rowB_none _))
      omega
    · rw [← hz]
      match k, hk with
      | 0, _ => simp
      | 1, _ => simp
      | 2, _ => simp
      | 3, _ => simp
    · have h1 : g = w.heap.size + 1 := hg.elim id (fun ⟨_, _, e⟩ => absurd e (rowB_none _))
      rw [h1]
      refine ⟨by omega, ?_⟩
      simp [hz]
  have HZ := Lib.hid hz
  clear hs1 hb1 hz
  generalize hB : w.heap.size = B at *
  have HS : Hid (B = w.heap.size) := Lib.hid hB.symm
  clear hB
  go_wp2_with fail
  have HP := Lib.hid (HO.out _ rfl)
  clear HO
  rw [HZ.out]
  go_loopw [5, 6] (fun o i wr => ∃ (c q : Nat) (rv : Nat → List Int) (hp : Nat → Option Addr) (hc : Nat → Nat), c ≤ la.length ∧ i = .int .i64 c ∧ o = .int .i64 q ∧ nAll rv + q ≤ c ∧ Pq B w wr B (B + 1) rv rv q hp hc) (fun _ i _ => la.length - (intOf i).toNat)
  case atStart => exact ⟨0, 0, _, _, _, Nat.zero_le _, rfl, rfl, Nat.le_refl _, HP.out⟩
  case round =>
    clear HP
    obtain ⟨c, q, rv, hp, hc, hcl, rfl, rfl, hnq, hst⟩ := hrel
    have HP := Lib.hid hst
    have HN := Lib.hid hnq
    clear hnq
    by_cases hlt : c < la.length
    · obtain ⟨b, off, rfl, hbS, hw0, hw1, hw2⟩ := HA.out c hlt
      have hc0 := (hst.bel.cell (p := ⟨b, _, none⟩) hbS).trans hw0
      have hc1 := (hst.bel.cell (p := ⟨b, _, none⟩) hbS).trans hw1
      have hc2 := (hst.bel.cell (p := ⟨b, _, none⟩) hbS).trans hw2
      have HW2 := Lib.hid hw2
      clear hst hw0 hw1 hw2
      have i1 : (0 : Int) ≤ (c : Int) := Int.natCast_nonneg _
      have i2 : (c : Int) < (la.length : Int) := by omega
      generalize la.getD c (0, 0, 0) = d at *
      obtain ⟨z, n, x⟩ := d
      simp only at hc0 hc1 hc2 HW2
      have q0 : (0 : Int) ≤ (q : Int) := Int.natCast_nonneg _
      go_upto_region 12 with (fail)
      go_cut [8] (fun i wx => i = .bool (clsB n) ∧ wx = wr)
      case first =>
        by_cases h0 : 0 ≤ n
        · by_cases h4 : n < 4
          · have e : clsB n = true := by simp [clsB, h0, h4]
            go_wp2
            go_meet
            case rel => exact ⟨by rw [e], rfl⟩
          · have e : clsB n = false := by simp [clsB, h4]
            go_wp2
            go_meet
            case rel => exact ⟨by rw [e], rfl⟩
        · have e : clsB n = false := by simp [clsB, h0]
          go_wp2
          go_meet
          case rel => exact ⟨by rw [e], rfl⟩
      case rest =>
        obtain ⟨rfl, rfl⟩ := hcut
        go_upto_block 2 with (fail)
        go_cut [5, 8] (fun o i8 wx => ∃ (q2 : Nat) (rv2 : Nat → List Int) (hp2 : Nat → Option Addr) (hc2 : Nat → Nat) (b8 : Bool), o = .int .i64 q2 ∧ i8 = .bool b8 ∧ nAll rv2 + q2 ≤ c + 1 ∧ Pq B w wx B (B + 1) rv2 rv2 q2 hp2 hc2)
        case rest =>
          as_aux_lemma =>
          clear HP HN hc0 hc1 hc2 HW2
          obtain ⟨q2, rv2, hp2, hcc2, b8, rfl, rfl, hnq2, hst⟩ := hcut
          have HP := Lib.hid hst
          have HN := Lib.hid hnq2
          clear hst hnq2
          go_wp2_with fail
          go_loopw [16, 17] (fun m i wq => ∃ j : Nat, j ≤ 4 ∧ i = .int .i64 j ∧ m = .int .i64 (sumN rv2 j) ∧ ∃ d, wq = wc.drewN d) (fun _ i _ => 4 - (intOf i).toNat)
          case atStart => exact ⟨0, by omega, rfl, rfl, 0, rfl⟩
          case round =>
            obtain ⟨j, hj, rfl, rfl, d, hwq⟩ := hrel
            have HWQ := Lib.hid hwq
            have j0 : (0 : Int) ≤ (j : Int) := Int.natCast_nonneg _
            have HP9 := Lib.hid (show Pq B w wr B (B + 1) rv2 rv2 q2 hp2 hcc2 from by rw [hwq]; exact HP.out.later (Nat.le_of_eq HS.out) (below_drewN (Below.refl _ wc) d))
            clear hwq
            have hs0 : (0 : Int) ≤ (sumN rv2 j : Int) := Int.natCast_nonneg _
            have hsb : (sumN rv2 j : Int) ≤ 1000 := by have := sumN_le rv2 hj; have := HN.out; omega
            by_cases hj4 : j < 4
            · have j4 : (j : Int) < 4 := by omega
              have hcR := HP9.out.cell j hj4
              have hlj : ((rv2 j).length : Int) ≤ 1000 := by have := nAll_le rv2 hj4; have := HN.out; omega
              have HLE := Lib.hid (fun n => (HP9.out.qn.drewN n).len j hj4 _ rfl)
              go_wp2_with fail
              go_quiet ((go_at_call 10; exact quiet_left (HLE.out _)))
              go_wp2_with fail
              go_roundw
              case rel => exact ⟨j + 1, by omega, by go_num, by simp [sumN], _, by rw [HWQ.out]; exact World.drewN_drewN ..⟩
              case measure => simp [intOf]; omega
            · obtain rfl : j = 4 := by omega
              have hcl4 : clsB 4 = false := by decide
              obtain ⟨t, ht, ht2⟩ : ∃ t, restB rv2 q2 = t ∧ ((sumN rv2 4 : Int) + (q2 : Int) == 0) = t := ⟨_, rfl, by
                unfold restB
                rw [sumN_four, Bool.eq_iff_iff, beq_iff_eq, decide_eq_true_eq]
                omega⟩
              have htt : (t != t) = false := by simp
              have hqq : ((q2 : Int) != (q2 : Int)) = false := by simp
              have hqb : (0 : Int) ≤ (q2 : Int) := Int.natCast_nonneg _
              have hqb2 : (q2 : Int) ≤ 1000 := by have := HN.out; omega
              go_wp2_with fail
              refine HP9.out.qn.opens.mono ?_
              rintro e wa ⟨rfl, rfl⟩
              go_wp2_with fail
              refine HP9.out.qn.rests.mono ?_
              rw [ht]
              rintro e wa ⟨rfl, rfl⟩
              go_wp2_with fail
              refine (len_bad 4 _ hcl4).mono ?_
              rintro e wa ⟨rfl, rfl⟩
              go_wp2_with fail
              go_roundw
              case rel => exact ⟨c + 1, q2, rv2, hp2, hcc2, by omega, by go_num, rfl, HN.out, HP9.out⟩
              case measure => simp [intOf]; omega

        case first =>
          have hqz0 : (0 : Int) ≤ (q : Int) := Int.natCast_nonneg _
          have hqz1 : (q : Int) ≤ 1000 := by have := HN.out; omega
          by_cases hz0 : z = 0
          · have bz0 : ((z : Int) == 0) = true := by rw [beq_iff_eq]; omega
            have HZ0 := Lib.hid hz0
            clear hz0
            as_aux_lemma =>
            cases hcb : clsB n with
            | false =>
              go_wp2_with fail
              refine (take_bad n _ hcb).mono ?_
              rintro e wa ⟨rfl, rfl⟩
              go_wp2_with fail
              go_meet
              case rel => exact ⟨q, rv, hp, hc, _, rfl, rfl, by have := HN.out; omega, HP.out⟩
            | true =>
              obtain ⟨k, hk, rfl⟩ : ∃ k : Nat, k < 4 ∧ n = (k : Int) := by
                have := of_decide_eq_true hcb
                exact ⟨n.toNat, by omega, by omega⟩
              have k0 : (0 : Int) ≤ (k : Int) := Int.natCast_nonneg _
              have k4 : (k : Int) < 4 := by omega
              rcases hrk : rv k with _ | ⟨x0, t⟩
              · have hcR := HP.out.cell k hk
                rw [hrk, List.length_nil] at hcR
                have HE := Lib.hid hrk
                clear hrk
                go_wp2_with fail
                refine (HP.out.qn.takeNo k hk _ rfl HE.out).mono ?_
                rintro e wa ⟨rfl, rfl⟩
                go_wp2_with fail
                go_meet
                case rel => exact ⟨q, rv, hp, hc, _, rfl, rfl, by have := HN.out; omega, HP.out⟩
              · have HE := Lib.hid hrk
                clear hrk
                go_wp2_with fail
                refine (HP.out.take (Nat.le_of_eq HS.out) k hk _ rfl x0 t HE.out (by have := HN.out; omega)).mono ?_
                rintro e w2 ⟨rfl, hst⟩
                have HP2 := Lib.hid hst
                clear hst hc0 hc1 hc2
                have hcR := HP2.out.cell k hk
                have hfR := HP2.out.fz k hk
                have hrd := HP2.out.rd k hk
                have hle := HP2.out.le k hk
                rw [HE.out] at hcR hrd hle
                rw [List.length_cons] at hcR hle
                obtain ⟨g, off2, hpk, hx0⟩ := hrd.at (j := 0) (by simp)
                rw [List.getD_cons_zero, Nat.add_zero] at hx0
                rw [hpk] at hcR
                have HPK := Lib.hid hpk
                clear hrd hpk
                have hlt0 : (0 : Int) < (t.length : Int) + 1 := by omega
                have hnl : ((t.length : Int) + 1 == 0) = false := by rw [beq_eq_false_iff_ne]; omega
                have hNA : nAll (upd rv k t) + 1 = nAll rv := by
                  have h3 := nAll_upd rv hk t
                  rw [HE.out, List.length_cons] at h3
                  omega
                have HNA := Lib.hid hNA
                clear hNA
                by_cases hc1 : hc k = 1
                · have ht0 : t = [] := List.eq_nil_of_length_eq_zero (by omega)
                  subst ht0
                  rw [hc1] at hcR
                  simp only [List.length_nil] at hcR hlt0 hnl hle
                  have HP3 := Lib.hid (HP2.out.last (Nat.le_of_eq HS.out) hk HPK.out HE.out)
                  clear hle
                  go_wp2_with fail

                  go_meet
                  case rel => exact ⟨q + 1, _, _, _, _, by go_num, rfl, by have := HN.out; have := HNA.out; omega, HP3.out⟩
                · have HP3 := Lib.hid (HP2.out.cut (Nat.le_of_eq HS.out) hk HE.out HPK.out hc1)
                  go_wp2_with fail

                  go_meet
                  case rel => exact ⟨q + 1, _, _, _, _, by go_num, rfl, by have := HN.out; have := HNA.out; omega, HP3.out⟩

          · have bz0 : ((z : Int) == 0) = false := by rw [beq_eq_false_iff_ne]; omega
            by_cases hz1' : z = 1
            · have bz1 : ((z : Int) == 1) = true := by rw [beq_iff_eq]; omega
              have HZ1 := Lib.hid hz1'
              clear hz1'
              as_aux_lemma =>
              by_cases hnz : nAll rv = 0
              · have hall := (nAll_zero rv).1 hnz
                have HAL := Lib.hid hall
                clear hall
                go_wp2_with fail
                refine (HP.out.qn.anyNo HAL.out).mono ?_
                rintro e wa ⟨rfl, rfl⟩
                go_wp2_with fail
                go_loop [7] (fun i => ∃ j : Nat, j ≤ 4 ∧ i = .int .i64 j) (fun i => 4 - (intOf i).toNat)
                case atStart => exact ⟨0, by omega, rfl⟩
                case round =>
                  obtain ⟨j, hj, rfl⟩ := hrel
                  have j0 : (0 : Int) ≤ (j : Int) := Int.natCast_nonneg _
                  by_cases hj4 : j < 4
                  · have j4 : (j : Int) < 4 := by omega
                    have hcR := HP.out.cell j hj4
                    rw [HAL.out j hj4, List.length_nil] at hcR
                    go_wp2_with fail
                    go_round
                    case rel => exact ⟨j + 1, by omega, by go_num⟩
                    case measure => simp [intOf]; omega
                  · obtain rfl : j = 4 := by omega
                    go_wp2_with fail
                    go_roundw
                    case rel => exact ⟨c + 1, q, rv, hp, hc, by omega, by go_num, rfl, by have := HN.out; omega, HP.out⟩
                    case measure => simp [intOf]; omega
              · obtain ⟨k, x0, t, hk, hrk, hlo⟩ := least_some hnz
                have HE := Lib.hid hrk
                have HLO := Lib.hid hlo
                have k0 : (0 : Int) ≤ (k : Int) := Int.natCast_nonneg _
                have k4 : (k : Int) < 4 := by omega
                clear hrk hlo
                go_wp2_with fail
                refine (HP.out.any (Nat.le_of_eq HS.out) k hk x0 t HLO.out HE.out (by have := HN.out; omega)).mono ?_
                rintro e w2 ⟨rfl, hst⟩
                have HP2 := Lib.hid hst
                clear hst hc0 hc1 hc2
                go_wp2_with fail
                go_loop [7] (fun i => ∃ j : Nat, j ≤ k ∧ i = .int .i64 j) (fun i => 4 - (intOf i).toNat)
                case atStart => exact ⟨0, by omega, rfl⟩
                case round =>
                  obtain ⟨j, hj, rfl⟩ := hrel
                  have j0 : (0 : Int) ≤ (j : Int) := Int.natCast_nonneg _
                  have j4 : (j : Int) < 4 := by omega
                  by_cases hjk : j < k
                  · have hcR := HP2.out.cell j (by omega)
                    rw [HLO.out j hjk, List.length_nil] at hcR
                    go_wp2_with fail
                    go_round
                    case rel => exact ⟨j + 1, by omega, by go_num⟩
                    case measure => simp [intOf]; omega
                  · obtain rfl : j = k := by omega
                    have k4b : ((j : Int) == 4) = false := by rw [beq_eq_false_iff_ne]; omega
                    have hcR := HP2.out.cell j hk
                    have hfR := HP2.out.fz j hk
                    have hrd := HP2.out.rd j hk
                    have hle := HP2.out.le j hk
                    rw [HE.out] at hcR hrd hle
                    rw [List.length_cons] at hcR hle
                    obtain ⟨g, off2, hpk, hx0⟩ := hrd.at (j := 0) (by simp)
                    rw [List.getD_cons_zero, Nat.add_zero] at hx0
                    rw [hpk] at hcR
                    have HPK := Lib.hid hpk
                    clear hrd hpk
                    have hlt0 : (0 : Int) < (t.length : Int) + 1 := by omega
                    have hnl : ((t.length : Int) + 1 == 0) = false := by rw [beq_eq_false_iff_ne]; omega
                    have hNA : nAll (upd rv j t) + 1 = nAll rv := by
                      have h3 := nAll_upd rv hk t
                      rw [HE.out, List.length_cons] at h3
                      omega
                    have HNA := Lib.hid hNA
                    clear hNA
                    by_cases hc1 : hc j = 1
                    · have ht0 : t = [] := List.eq_nil_of_length_eq_zero (by omega)
                      subst ht0
                      rw [hc1] at hcR
                      simp only [List.length_nil] at hcR hlt0 hnl hle
                      have HP3 := Lib.hid (HP2.out.last (Nat.le_of_eq HS.out) hk HPK.out HE.out)
                      clear hle
                      go_wp2_with fail

                      go_meet
                      case rel => exact ⟨q + 1, _, _, _, _, by go_num, rfl, by have := HN.out; have := HNA.out; omega, HP3.out⟩
                    · have HP3 := Lib.hid (HP2.out.cut (Nat.le_of_eq HS.out) hk HE.out HPK.out hc1)
                      go_wp2_with fail

                      go_meet
                      case rel => exact ⟨q + 1, _, _, _, _, by go_num, rfl, by have := HN.out; have := HNA.out; omega, HP3.out⟩

            · have bz1 : ((z : Int) == 1) = false := by rw [beq_eq_false_iff_ne]; omega
              by_cases hz2' : z = 2
              · have bz2 : ((z : Int) == 2) = true := by rw [beq_iff_eq]; omega
                have HZ2 := Lib.hid hz2'
                clear hz2'
                as_aux_lemma =>
                have hmx := max_sub q
                rcases Nat.eq_zero_or_pos q with hq0 | hq0
                · subst hq0
                  go_wp2_with fail
                  refine HP.out.qn.doneNo.mono ?_
                  rintro e wa ⟨rfl, rfl⟩
                  go_wp2_with fail
                  go_meet
                  case rel => exact ⟨0, rv, hp, hc, _, rfl, rfl, by have := HN.out; omega, HP.out⟩
                · obtain ⟨d, rfl⟩ : ∃ d, q = d + 1 := ⟨q - 1, by omega⟩
                  have dq : decide ((0 : Int) < ((d + 1 : Nat) : Int)) = true := decide_eq_true (by omega)
                  have bq : (((d + 1 : Nat) : Int) == 0) = false := by rw [beq_eq_false_iff_ne]; omega
                  go_wp2_with fail
                  refine (Pq.done d HP.out (Nat.le_of_eq HS.out) (by have := HN.out; omega)).mono ?_
                  rintro e w2 ⟨rfl, hst⟩
                  have HP2 := Lib.hid hst
                  clear hst hc0 hc1 hc2
                  go_wp2_with fail
                  go_meet
                  case rel => exact ⟨d, rv, hp, hc, _, by go_num, rfl, by have := HN.out; omega, HP2.out⟩
              · have bz2 : ((z : Int) == 2) = false := by rw [beq_eq_false_iff_ne]; omega
                cases hcb : clsB n with
                | false =>
                  go_wp2_with fail
                  refine (put_bad n x _ (.inl hcb)).mono ?_
                  rintro e wa ⟨rfl, rfl⟩
                  go_wp2_with fail
                  go_roundw
                  case rel => exact ⟨c + 1, q, rv, hp, hc, by omega, by go_num, rfl, by have := HN.out; omega, HP.out⟩
                  case measure => simp [intOf]; omega
                | true =>
                  as_aux_lemma =>
                  by_cases hx : x < 0
                  · have dx : decide (x < 0) = true := decide_eq_true hx
                    go_wp2_with fail
                    refine (put_bad n x _ (.inr hx)).mono ?_
                    rintro e wa ⟨rfl, rfl⟩
                    go_wp2_with fail
                    go_roundw
                    case rel => exact ⟨c + 1, q, rv, hp, hc, by omega, by go_num, rfl, by have := HN.out; omega, HP.out⟩
                    case measure => simp [intOf]; omega
                  · have dx : decide (x < 0) = false := decide_eq_false hx
                    obtain ⟨k, hk, rfl⟩ : ∃ k : Nat, k < 4 ∧ n = (k : Int) := by
                      have := of_decide_eq_true hcb
                      exact ⟨n.toNat, by omega, by omega⟩
                    have k0 : (0 : Int) ≤ (k : Int) := Int.natCast_nonneg _
                    have k4 : (k : Int) < 4 := by omega
                    have hlk : (rv k).length ≤ 300 := by have := nAll_le rv hk; have := HN.out; omega
                    have HLK := Lib.hid hlk
                    clear hlk
                    go_wp2_with fail
                    refine (HP.out.put (Nat.le_of_eq HS.out) k hk _ rfl x (by omega) (by have := HLK.out; omega)).mono ?_
                    rintro e w2 ⟨rfl, hst⟩
                    have HP2 := Lib.hid hst
                    have hc2' := (HP2.out.bel.cell (p := ⟨b, off + c * 3 + 2, none⟩) hbS).trans HW2.out
                    clear hst hc0 hc1 hc2
                    have hcR := HP2.out.cell k hk
                    have hfR := HP2.out.fz k hk
                    have hle : ((rv k).length : Int) ≤ (hc k : Int) := by have := HP2.out.le k hk; omega
                    have hrd := HP2.out.rd k hk
                    skip
                    have RC : Hid (∀ Y, Below w2.heap.size w2 Y → ∀ b, hp k = some b → ∀ j u, (cellsZ (rv k))[j]? = some u → Y.cell? (b.add j) = some u) := Lib.hid fun _ h => rd_cells hrd h
                    have RN : Hid (hp k = none → (rv k).length = 0 ∧ (rv k).length = 0) := Lib.hid (fun e => by rw [e] at hrd; have := rd_nil hrd; omega)
                    have HFIN : Hid (∀ (w3 : World) (p' : Option Addr) (c' : Nat), Below w2.heap.size w2 w3 → w3.ownsRow w2.heap.size 3 1 (.slice p' ((rv k).length + 1) c') ((rv k).length + 1) (cellsZ (rv k) ++ [.int .i64 x]) →
                        w3.cell? ⟨B + 1, k, none⟩ = some (.slice (hp k) (rv k).length (hc k)) ∧ w3.frozen? ⟨B + 1, k, none⟩ = false ∧ Hid (Pq B w (w3.setCell ⟨B + 1, k, none⟩ (.slice p' ((rv k).length + 1) c')) B (B + 1) (upd rv k (rv k ++ [x])) (upd rv k (rv k ++ [x])) q (upd hp k p') (upd hc k c'))) := Lib.hid (by
                      intro w3 p' c' hb3 hown
                      have hlen : (rv k ++ [x]).length = (rv k).length + 1 := by simp
                      have h2 := HP2.out.later (Nat.le_of_eq HS.out) hb3
                      rw [← cellsZ_snoc, ← hlen] at hown
                      rw [← hlen]
                      exact ⟨h2.cell k hk, h2.fz k hk, Lib.hid (HP2.out.more (Nat.le_of_eq HS.out) hb3 hk hown)⟩)
                    have HNA := Lib.hid (show nAll (upd rv k (rv k ++ [x])) = nAll rv + 1 by
                      have h3 := nAll_upd rv hk (rv k ++ [x])
                      rw [List.length_append, List.length_singleton] at h3
                      omega)
                    have hlk := HLK.out
                    clear HP2 HLK hrd
                    go_wp2_with fail
                    refine put_reg _ (hp k) (rv k).length (hc k) c k la.length ca B b off x (rv k) rfl _ hk hlt (by omega) hcR hfR hc2' (by omega) (by omega) RC.out RN.out _ _ _ _ _ _ _ _ _ _ _ _ _ _ _ _ _ _ _ _ _ _ _ _ _ _ _ _ _ _ _ _ _ _ _ _ _ _ _ _ _ _ _ _ _ _ _ _ _ _ _ _ _ _ _ _ _ _ _ _ _ _ _ _ _ _ _ _ _ _ _ _ _ _ _ _ _ _ _ _ _ _ _ _ _ _ _ _ _ _ _ _ _ _ _ _ _ _ _ _ _ _ _ _ _ _ _ _ _ _ _ _ _ _ _ _ _ _ _ _ _ _ _ _ _ _ _ _ _ _ _ _ _ _ _ _ _ _ _ _ _ _ _ _ _ _ _ _ _ _ _ _ _ _ _ _ _ _ _ _ _ _ _ _ _ _ _ _ _ _ _ _ _ _ _ _ _ _ _ _ _ _ _ _ _ _ _ _ _ _ _ _ _ _ _ _ _ _ _ _ _ _ _ _ _ _ _ _ _ _ _ _ _ _ _ _ _ _ _ _ _ _ _ _ _ _ _ _ _ _ _ _ _ _ _ _ _ _ _ _ _ _ _ _ _ _ (fun _ _ dst _ _ h => by cases dst <;> exact h) ?_
                    intro p' c' w4 s69 s70 s71 s72 s73 s74 s75 s76 s77 s78 s79 s80 s81 s82 s83 s84 s85 s86 s87 s88 s89 hb4 ho4
                    obtain ⟨hc3, hf3, HP3⟩ := HFIN.out w4 p' c' hb4 ho4
                    clear hb4 ho4 hc3 hf3
                    go_wp2_with fail
                    go_meet
                    case rel => exact ⟨q, _, _, _, _, rfl, rfl, by have := HN.out; have := HNA.out; omega, HP3.out⟩
    · obtain rfl : c = la.length := by omega
      go_wp2_with fail
      refine (awake_any _).mono ?_
      rintro e w3 ⟨rfl, hb3⟩
      have HB3 := Lib.hid hb3
      clear hb3
      go_wp2
      go_ret
      refine ⟨rfl, ?_⟩
      rw [← HS.out]
      exact HP.out.bel.trans (HB3.out.mono (by have := HP.out.bel.size; have := HS.out; omega))
end Go.Proofs.Ytadkmidipjlcjaa.Qu
