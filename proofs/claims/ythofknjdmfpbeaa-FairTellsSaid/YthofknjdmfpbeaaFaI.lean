/-
  The law FairTells answers true, of every row, and any who and k.
-/
import Derived.Test.YthofknjdmfpbeaaFaH
namespace Go.Proofs.Ythofknjdmfpbeaa.Fa
open Go.RowKit Go.Shelf
open Go.Proofs.Ythofknjdmfpbeaa.Row
attribute [local go_sem] Oper.semAt_some

theorem fair_min {l : List Int} {n s k : Nat} (hl : l.length ≤ 100) (hs : n = s ∨ (200 ≤ n ∧ s = 200)) : fair l n k = fair l s k := by
  rcases hs with rfl | ⟨h1, rfl⟩
  · rfl
  · by_cases hk : k ≤ l.length
    · rw [fair_short hk (by omega), fair_short hk (by omega)]
    · rw [fair_long (by omega), fair_long (by omega)]

set_option maxHeartbeats 4000000 in
set_option maxRecDepth 100000 in
theorem tells_walk (p : Option Addr) (l : List Int) (cap : Nat) (who k : Int) (w : World) (hrd : Rd0 w p l) (hcap : l.length ≤ cap ∧ cap ≤ maxLen) :
    Calls Try.prog 3 #[.slice p l.length cap, .int .i64 who, .int .i64 k] w fun e w' => e = .returned (.bool true) ∧ Below w.heap.size w w' := by
  by_cases hbig : 100 < l.length
  · have i0 : (100 : Int) < (l.length : Int) := by omega
    clear hrd
    go_enter Try.func3, Try.ntmps3
    go_wp2_with (go_at_call 8; refine (awake_any _).mono ?_; rintro e w1 ⟨rfl, hb⟩)
    go_ret
    exact ⟨rfl, hb⟩
  have i0 : ¬ (100 : Int) < (l.length : Int) := by omega
  have H : Hid (Pk w p l cap) := Lib.hid ⟨hrd, by omega, hcap⟩
  have HCN := Lib.hid (fun W hb => count_any who W (H.out.later hb))
  clear hrd
  go_enter Try.func3, Try.ntmps3
  go_wp2
  go_loopw [7, 8] (fun s i wr => ∃ c : Nat, c ≤ l.length ∧ i = .int .i64 c ∧ s = .int .i64 ((l.take c).count who : Nat) ∧ w = wr) (fun _ i _ => l.length - (intOf i).toNat)
  case atStart => exact ⟨0, by omega, rfl, rfl, rfl⟩
  case round =>
    obtain ⟨c, hc, rfl, rfl, rfl⟩ := hrel
    by_cases hlt : c < l.length
    · obtain ⟨g, off, rfl, hx⟩ := H.out.rd c hlt
      have j0 : (0 : Int) ≤ (c : Int) := Int.natCast_nonneg _
      have j1 : (c : Int) < (l.length : Int) := by omega
      have HT := Lib.hid (count_take who hlt)
      have hle : (l.take c).count who ≤ (l.take c).length := List.count_le_length
      rw [List.length_take] at hle
      generalize (l.take c).count who = s at *
      generalize l.getD c 0 = y at *
      by_cases he : y = who
      · subst he
        have hyy : (y == y) = true := by simp
        rw [if_pos rfl] at HT
        go_wp2
        go_roundw
        case rel => exact ⟨c + 1, by omega, by go_num, by rw [HT.out]; go_num, by first | exact rfl | trivial⟩
        case measure => simp [intOf]; omega
      · have hyx : (y == who) = false := by simpa using he
        rw [if_neg he] at HT
        go_wp2
        go_roundw
        case rel => exact ⟨c + 1, by omega, by go_num, by rw [HT.out]; rfl, by first | exact rfl | trivial⟩
        case measure => simp [intOf]; omega
    · obtain rfl : c = l.length := by omega
      rw [List.take_length]
      have HCN1 := Lib.hid (HCN.out w (Below.refl _ _))
      generalize l.count who = N at *
      have hNN : (((N : Nat) : Int) != ((N : Nat) : Int)) = false := by simp
      by_cases hw : who < 1
      · have HF := Lib.hid (fun W hb => fair_any who k W (H.out.later hb))
        have hfi : fairI l who k = false := by unfold fairI; rw [decide_eq_false (by omega)]; rfl
        rw [hfi] at HF
        go_wp2_with (first
          | (go_at_call 9; refine HCN1.out.mono ?_; rintro e wa ⟨rfl, rfl⟩)
          | (go_at_call 10; refine (HF.out _ (Below.refl _ _)).mono ?_; rintro e w1 ⟨rfl, hb1⟩)
          | (go_at_call 11; refine (gap_none _ _ _ _ hw _).mono ?_; rintro e w2 ⟨rfl, hb2⟩)
          | (go_at_call 8; refine (awake_any _).mono ?_; rintro e w3 ⟨rfl, hb3⟩))
        go_ret
        exact ⟨rfl, (hb1.trans (hb2.mono hb1.size)).trans (hb3.mono (hb1.trans (hb2.mono hb1.size)).size)⟩
      · go_wp2_with (go_at_call 9; refine HCN1.out.mono ?_; rintro e wa ⟨rfl, rfl⟩)
        obtain ⟨s, hs⟩ : ∃ s : Nat, min who 200 = (s : Int) := ⟨(min who 200).toNat, by omega⟩
        have hs1 : 1 ≤ s := by omega
        have hs2 : s ≤ 200 := by omega
        have HFM : Hid (∀ k, fair l who.toNat k = fair l s k) := Lib.hid fun k => fair_min (by omega) (by omega)
        rw [hs]
        clear hs
        have hlen : l.length ≤ 100 := by omega
        go_loopw [10] (fun i wr => ∃ c : Nat, c ≤ l.length ∧ i = .int .i64 ((c : Int) + 1) ∧ (∀ j, j < c → fair l s (j + 1) = false) ∧ w = wr) (fun i _ => l.length + 2 - (intOf i).toNat)
        case atStart => exact ⟨0, by omega, rfl, fun j hj => by omega, rfl⟩
        case round =>
          obtain ⟨c, hc, rfl, hno, rfl⟩ := hrel
          have HNO := Lib.hid hno
          clear hno
          have HIF := Lib.hid (isfair_any s (c + 1) (by omega) (by omega) (by omega) w H.out)
          have hcz : ((c + 1 : Nat) : Int) = (c : Int) + 1 := by omega
          rw [hcz] at HIF
          cases hf : fair l s (c + 1) with
          | false =>
            have hcl : c < l.length := by
              rcases Nat.lt_or_ge c l.length with h | h
              · exact h
              · rw [fair_long (by omega)] at hf; cases hf
            rw [hf] at HIF
            go_wp2_with (go_at_call 12; refine HIF.out.mono ?_; rintro e wa ⟨rfl, rfl⟩)
            go_roundw
            case rel =>
              refine ⟨c + 1, by omega, by go_num, fun j hj => ?_, by first | exact rfl | trivial⟩
              by_cases e : j = c
              · subst e; exact hf
              · exact HNO.out j (by omega)
            case measure => simp [intOf]; omega
          | true =>
            have HG : Hid (Gap l who.toNat c) := Lib.hid ⟨hc, fun j hj => by rw [HFM.out]; exact HNO.out j hj, fun _ => by rw [HFM.out]; exact hf⟩
            have HGA := Lib.hid (gap_any who (by omega) w H.out)
            have HFA := Lib.hid (fun W hb => fair_any who k W (H.out.later hb))
            rw [hf] at HIF
            have HFIN : Hid (∀ g : Nat, Gap l who.toNat g → g = c) := Lib.hid (fun g hg => hg.uniq HG.out)
            by_cases hk1 : k < 1
            · have hfi : fairI l who k = false := by unfold fairI; rw [decide_eq_false (show ¬ 1 ≤ k by omega), Bool.and_false]; rfl
              rw [hfi] at HFA
              go_wp2_with (go_at_call 12; fail)
              refine HIF.out.mono ?_
              rintro e wa ⟨rfl, rfl⟩
              go_wp2_with fail
              refine HGA.out.mono ?_
              rintro e w1 ⟨g, rfl, hg, hb1⟩
              obtain rfl := HFIN.out g hg
              have HB1 := Lib.hid hb1
              clear hb1 hg
              go_wp2_with (first
                | (go_at_call 10; refine (HFA.out _ HB1.out).mono ?_; rintro e w2 ⟨rfl, hb2⟩)
                | (go_at_call 8; refine (awake_any _).mono ?_; rintro e w3 ⟨rfl, hb3⟩))
              go_ret
              exact ⟨rfl, (HB1.out.trans (hb2.mono HB1.out.size)).trans (hb3.mono (HB1.out.trans (hb2.mono HB1.out.size)).size)⟩
            · by_cases hkl : (l.length : Int) < k
              · have hfi : fairI l who k = true := by unfold fairI; rw [decide_eq_true (show 1 ≤ k by omega), decide_eq_true (show 1 ≤ who by omega), fair_long (by omega)]; rfl
                rw [hfi] at HFA
                go_wp2_with (go_at_call 12; fail)
                refine HIF.out.mono ?_
                rintro e wa ⟨rfl, rfl⟩
                go_wp2_with fail
                refine HGA.out.mono ?_
                rintro e w1 ⟨g, rfl, hg, hb1⟩
                obtain rfl := HFIN.out g hg
                have HB1 := Lib.hid hb1
                clear hb1 hg
                go_wp2_with (first
                  | (go_at_call 10; refine (HFA.out _ HB1.out).mono ?_; rintro e w2 ⟨rfl, hb2⟩)
                  | (go_at_call 8; refine (awake_any _).mono ?_; rintro e w3 ⟨rfl, hb3⟩))
                go_ret
                exact ⟨rfl, (HB1.out.trans (hb2.mono HB1.out.size)).trans (hb3.mono (HB1.out.trans (hb2.mono HB1.out.size)).size)⟩
              · have hfi : fairI l who k = fair l s k.toNat := by unfold fairI; rw [decide_eq_true (show 1 ≤ k by omega), decide_eq_true (show 1 ≤ who by omega), HFM.out]; rfl
                rw [hfi] at HFA
                have HIF2 := Lib.hid (isfair_any s k.toNat (by omega) (by omega) (by omega) w H.out)
                have hkz : ((k.toNat : Nat) : Int) = k := by omega
                rw [hkz] at HIF2
                generalize fair l s k.toNat = fb at *
                have hfb : (fb == fb) = true := by simp
                clear hkz
                go_wp2_with (go_at_call 12; fail)
                refine HIF.out.mono ?_
                rintro e wa ⟨rfl, rfl⟩
                go_wp2_with fail
                refine HIF2.out.mono ?_
                rintro e wa ⟨rfl, rfl⟩
                go_wp2_with fail
                refine HGA.out.mono ?_
                rintro e w1 ⟨g, rfl, hg, hb1⟩
                obtain rfl := HFIN.out g hg
                have HB1 := Lib.hid hb1
                clear hb1 hg
                go_wp2_with (first
                  | (go_at_call 10; refine (HFA.out _ HB1.out).mono ?_; rintro e w2 ⟨rfl, hb2⟩)
                  | (go_at_call 8; refine (awake_any _).mono ?_; rintro e w3 ⟨rfl, hb3⟩))
                go_ret
                exact ⟨by rw [decide_eq_false (show ¬ (l.length : Int) < k by omega), Bool.false_or, hfb]; rfl, (HB1.out.trans (hb2.mono HB1.out.size)).trans (hb3.mono (HB1.out.trans (hb2.mono HB1.out.size)).size)⟩
end Go.Proofs.Ythofknjdmfpbeaa.Fa
