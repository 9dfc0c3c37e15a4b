/-
  The law QueueOpens answers true, for every row of classes and every row of takes.
-/
import Derived.Test.YtbejddpfnglkbaaQuD
namespace Go.Proofs.Ytbejddpfnglkbaa.Qu
open Go.RowKit
open Go.Proofs.Ytbejddpfnglkbaa.Row

theorem max_sub (n : Nat) : max (0 : Int) ((n : Int) - 1) = ((n - 1 : Nat) : Int) := by omega
set_option maxRecDepth 100000 in
set_option maxHeartbeats 4000000 in
theorem opens_walk (pa : Option Addr) (ca : Nat) (l : List Nat) (pb : Option Addr) (cb : Nat) (tk : List Nat) (w : World) (ha : BytesP w.heap.size w pa l) (hla : l.length ≤ maxLen) (hb : BytesP w.heap.size w pb tk) (hlb : tk.length ≤ maxLen) :
    Calls Try.prog 6 #[.slice pa l.length ca, .slice pb tk.length cb] w fun e w' => e = .returned (.bool true) ∧ Below w.heap.size w w' := by
  unfold maxLen at hla hlb
  have HA := Lib.hid ha
  have HT := Lib.hid hb
  clear ha hb
  by_cases hbig : 60 < l.length
  · have h1 : (60 : Int) < (l.length : Int) := by omega
    go_enter Try.func6, Try.ntmps6
    go_wp2_with fail
    refine (awake_any _).mono ?_
    rintro e w1 ⟨rfl, hb1⟩
    have HB1 := Lib.hid hb1
    clear hb1
    go_wp2
    go_ret
    exact ⟨rfl, HB1.out⟩
  have h1 : (l.length : Int) ≤ 60 := by omega
  have hd1 : decide ((60 : Int) < (l.length : Int)) = false := by simpa using h1
  by_cases hbig2 : 60 < tk.length
  · have h2 : (60 : Int) < (tk.length : Int) := by omega
    go_enter Try.func6, Try.ntmps6
    go_wp2_with fail
    refine (awake_any _).mono ?_
    rintro e w1 ⟨rfl, hb1⟩
    have HB1 := Lib.hid hb1
    clear hb1
    go_wp2
    go_ret
    exact ⟨rfl, HB1.out⟩
  have h2 : (tk.length : Int) ≤ 60 := by omega
  have hd2 : decide ((60 : Int) < (tk.length : Int)) = false := by simpa using h2
  go_enter Try.func6, Try.ntmps6
  go_wp2_with fail
  refine (new_qn _).mono ?_
  rintro e w1 ⟨rfl, hs1, _⟩
  have HO := Lib.hid hs1
  clear hs1
  generalize hB : w.heap.size = B at *
  have HS : Hid (B = w.heap.size) := Lib.hid hB.symm
  clear hB
  go_wp2
  go_loopw [6] (fun i wr => ∃ (c : Nat) (rv : Nat → List Int), c ≤ l.length ∧ i = .int .i64 c ∧ nAll rv = c ∧ Qn B w wr B rv 0) (fun i _ => l.length - (intOf i).toNat)
  case atStart => exact ⟨0, _, Nat.zero_le _, rfl, rfl, HO.out⟩
  case round =>
    clear HO
    obtain ⟨c, rv, hc, rfl, ht, hq⟩ := hrel
    have HN := Lib.hid ht
    have HO := Lib.hid hq
    clear ht hq
    by_cases hlt : c < l.length
    · have i0 : (0 : Int) ≤ (c : Int) := Int.natCast_nonneg _
      have i1 : (c : Int) < (l.length : Int) := by omega
      obtain ⟨b, off, rfl, hbS, h8, hcell⟩ := (HA.out.below HO.out.bel) c hlt
      generalize l.getD c 0 = z at hcell h8
      obtain ⟨k, hk, hzm⟩ : ∃ k : Nat, k < 4 ∧ (z : Int) % 4 = (k : Int) := ⟨z % 4, by omega, by omega⟩
      have hlk : (rv k).length ≤ 1000000 := by have := nAll_le rv hk; have := HN.out; omega
      have HLK := Lib.hid hlk
      clear hlk
      go_wp2_with fail
      refine (HO.out.put (Nat.le_of_eq HS.out) k hk _ (by simp) _ i0 HLK.out).mono ?_
      rintro e w2 ⟨rfl, hst⟩
      have HO2 := Lib.hid hst
      have HN2 := Lib.hid (show nAll (upd rv k (rv k ++ [(c : Int)])) = c + 1 by
        have := nAll_upd rv hk (rv k ++ [(c : Int)])
        have := HN.out
        rw [List.length_append, List.length_singleton] at *
        omega)
      clear hst HO HN
      go_wp2
      go_roundw
      case rel => exact ⟨c + 1, _, by omega, by go_num, HN2.out, HO2.out⟩
      case measure => simp [intOf]; omega
    · obtain rfl : c = l.length := by omega
      go_wp2
      go_loopw [7, 8, 9] (fun o le i wr => ∃ (c : Nat) (rv : Nat → List Int) (q m : Nat), c ≤ tk.length ∧ i = .int .i64 c ∧ o = .int .i64 q ∧ le = .int .i64 m ∧ nAll rv = m ∧ m + q ≤ l.length ∧ Qn B w wr B rv q) (fun _ _ i _ => tk.length - (intOf i).toNat)
      case atStart => exact ⟨0, rv, 0, l.length, Nat.zero_le _, rfl, rfl, rfl, HN.out, Nat.le_refl _, HO.out⟩
      case round =>
        clear HO HN
        obtain ⟨c, rv, q, m, hc, rfl, rfl, rfl, ht, hmq, hq⟩ := hrel
        have HN := Lib.hid ht
        have HO := Lib.hid hq
        clear ht hq
        have q0 : (0 : Int) ≤ (q : Int) := Int.natCast_nonneg _
        have m0 : (0 : Int) ≤ (m : Int) := Int.natCast_nonneg _
        by_cases hlt : c < tk.length
        · have i0 : (0 : Int) ≤ (c : Int) := Int.natCast_nonneg _
          have i1 : (c : Int) < (tk.length : Int) := by omega
          obtain ⟨b, off, rfl, hbS, h8, hcell⟩ := (HT.out.below HO.out.bel) c hlt
          obtain ⟨z, hz⟩ : ∃ z, z = tk.getD c 0 := ⟨_, rfl⟩
          rw [← hz] at hcell h8
          have HZ := Lib.hid hz
          clear hz
          obtain ⟨k, hk, hzm⟩ : ∃ k : Nat, k < 5 ∧ (z : Int) % 5 = (k : Int) := ⟨z % 5, by omega, by omega⟩
          have hmx := max_sub q
          by_cases hk4 : k = 4
          · subst hk4
            rcases Nat.eq_zero_or_pos q with hq0 | hq0
            · subst hq0
              go_wp2_with fail
              refine HO.out.doneNo.mono ?_
              rintro e wa ⟨rfl, rfl⟩
              go_wp2
              go_roundw
              case rel => exact ⟨c + 1, rv, 0, m, by omega, by go_num, rfl, rfl, HN.out, hmq, HO.out⟩
              case measure => simp [intOf]; omega
            · obtain ⟨d, rfl⟩ : ∃ d, q = d + 1 := ⟨q - 1, by omega⟩
              go_wp2_with fail
              refine (Qn.done d HO.out (Nat.le_of_eq HS.out) (by omega)).mono ?_
              rintro e w2 ⟨rfl, hst⟩
              have HO2 := Lib.hid hst
              clear hst HO
              go_wp2
              go_roundw
              case rel => exact ⟨c + 1, rv, d, m, by omega, by go_num, by go_num, rfl, HN.out, by omega, HO2.out⟩
              case measure => simp [intOf]; omega
          · have hk3 : k < 4 := by omega
            have hk4' : ((k : Int) == 4) = false := by rw [beq_eq_false_iff_ne]; omega
            rcases hrk : rv k with _ | ⟨x, t⟩
            · have hl0 : (rv k).length = 0 := by rw [hrk]; rfl
              have HK := Lib.hid hrk
              clear hrk
              have HLN := Lib.hid (show ∀ z : Int, z = k → Calls Try.prog 13 #[.pointer (some ⟨B, 0, none⟩), .int .i64 z] wr fun e w' => e = .returned (.int .i64 0) ∧ wr = w' from fun z hz => by
                have := HO.out.len k hk3 z hz
                rwa [hl0] at this)
              clear hl0
              go_wp2_with (first | (go_at_call 13; refine (HLN.out _ (by simp)).mono ?_; rintro e wa ⟨rfl, rfl⟩) | (go_at_call 9; refine (HO.out.takeNo k hk3 _ (by simp) HK.out).mono ?_; rintro e wa ⟨rfl, rfl⟩))
              go_roundw
              case rel => exact ⟨c + 1, rv, q, m, by omega, by go_num, rfl, rfl, HN.out, hmq, HO.out⟩
              case measure => simp [intOf]; omega
            · have htl : (t.length : Int) ≤ 60 := by
                have h3 := nAll_le rv hk3
                have h4 := HN.out
                rw [hrk, List.length_cons] at h3
                omega
              have hmt : 1 ≤ m := by
                have h3 := nAll_le rv hk3
                have h4 := HN.out
                rw [hrk, List.length_cons] at h3
                omega
              have HLN := Lib.hid (show ∀ z : Int, z = k → Calls Try.prog 13 #[.pointer (some ⟨B, 0, none⟩), .int .i64 z] wr fun e w' => e = .returned (.int .i64 ((t.length : Int) + 1)) ∧ wr = w' from fun z hz => by
                have h3 := HO.out.len k hk3 z hz
                rw [hrk] at h3
                exact h3)
              have HN2 := Lib.hid (show nAll (upd rv k t) = m - 1 by
                have h3 := nAll_upd rv hk3 t
                have h4 := HN.out
                rw [hrk, List.length_cons] at h3
                omega)
              have HK := Lib.hid hrk
              have hm1 : (m : Int) - 1 = ((m - 1 : Nat) : Int) := by omega
              have dt : decide ((0 : Int) < (t.length : Int) + 1) = true := decide_eq_true (by omega)
              have htm : max (0 : Int) (t.length : Int) = (t.length : Int) := by omega
              clear hrk HN
              go_wp2_with fail
              refine (HLN.out _ (by simp)).mono ?_
              rintro e wa ⟨rfl, rfl⟩
              go_wp2_with fail
              refine (HO.out.take (Nat.le_of_eq HS.out) k hk3 _ (by simp) x t HK.out (by omega)).mono ?_
              rintro e w2 ⟨rfl, hst⟩
              have HO2 := Lib.hid hst
              have hcell2 : w2.cell? ⟨b, off + c, none⟩ = some (.int .u8 (z : Int)) := by
                obtain ⟨b2, off2, e2, _, _, h3⟩ := (HT.out.below HO2.out.bel) c hlt
                cases e2
                rwa [← HZ.out] at h3
              have HLN2 := Lib.hid (show ∀ z : Int, z = k → Calls Try.prog 13 #[.pointer (some ⟨B, 0, none⟩), .int .i64 z] w2 fun e w' => e = .returned (.int .i64 (t.length : Int)) ∧ w2 = w' from fun z hz => by
                have h3 := HO2.out.len k hk3 z hz
                rw [upd_same] at h3
                exact h3)
              clear hst HLN
              go_wp2_with fail
              refine (HLN2.out _ (by simp)).mono ?_
              rintro e wa ⟨rfl, rfl⟩
              go_wp2
              go_roundw
              case rel => exact ⟨c + 1, _, q + 1, m - 1, by omega, by go_num, by go_num, rfl, HN2.out, by omega, HO2.out⟩
              case measure => simp [intOf]; omega
        · obtain rfl : c = tk.length := by omega
          have hsum : (((rv 0).length : Int) + (rv 1).length + (rv 2).length + (rv 3).length) = (m : Int) := by
            have := HN.out
            unfold nAll at this
            omega
          go_wp2_with fail
          refine HO.out.opens.mono ?_
          rintro e wa ⟨rfl, rfl⟩
          go_wp2_with fail
          refine HO.out.rests.mono ?_
          rintro e wa ⟨rfl, rfl⟩
          have hres : restB rv q = decide ((q : Int) + (m : Int) = 0) := by
            unfold restB
            rw [HN.out]
            exact decide_eq_decide.2 (by omega)
          rw [hres]
          go_wp2_with fail
          refine (HO.out.len 0 (by decide) _ rfl).mono ?_
          rintro e wa ⟨rfl, rfl⟩
          go_wp2_with fail
          refine (HO.out.len 1 (by decide) _ rfl).mono ?_
          rintro e wa ⟨rfl, rfl⟩
          go_wp2_with fail
          refine (HO.out.len 2 (by decide) _ rfl).mono ?_
          rintro e wa ⟨rfl, rfl⟩
          go_wp2_with fail
          refine (HO.out.len 3 (by decide) _ rfl).mono ?_
          rintro e wa ⟨rfl, rfl⟩
          go_wp2_with fail
          refine (awake_any _).mono ?_
          rintro e w3 ⟨rfl, hb3⟩
          have HB3 := Lib.hid hb3
          clear hb3
          go_wp2
          go_ret
          refine ⟨rfl, ?_⟩
          rw [← HS.out]
          exact HO.out.bel.trans (HB3.out.mono (by have := HO.out.bel.size; have := HS.out; omega))
end Go.Proofs.Ytbejddpfnglkbaa.Qu
