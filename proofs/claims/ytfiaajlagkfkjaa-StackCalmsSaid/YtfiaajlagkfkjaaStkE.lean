/-
  The law StackCalms answers true, for every room, whatever is pushed more and popped.
-/
import Derived.Test.YtfiaajlagkfkjaaStkD
namespace Go.Proofs.Ytfiaajlagkfkjaa.Stk
open Go.RowKit
open Go.Proofs.Ytfiaajlagkfkjaa.Row

theorem nil_or_snoc (l : List Int) : l = [] ∨ ∃ l' x, l = l' ++ [x] := by
  rcases List.eq_nil_or_concat l with h | ⟨l', x, h⟩
  · exact .inl h
  · exact .inr ⟨l', x, by rw [h, List.concat_eq_append]⟩

set_option maxRecDepth 100000 in
set_option maxHeartbeats 4000000 in
theorem calms_walk (s : Nat) (hs : s < 256) (mo : Nat) (hmo : mo < 256) (po : Nat) (hpo : po < 256) (w : World) :
    Calls Try.prog 6 #[.int .u8 s, .int .u8 mo, .int .u8 po] w fun e w' => e = .returned (.bool true) ∧ Below w.heap.size w w' := by
  obtain ⟨k, hk1, hk2, hk⟩ : ∃ k : Nat, 1 ≤ k ∧ k ≤ 50 ∧ 1 + (s : Int) % 50 = (k : Int) := ⟨1 + s % 50, by omega, by omega, by omega⟩
  obtain ⟨m, hm1, hm⟩ : ∃ m : Nat, m ≤ 8 ∧ (mo : Int) % 9 = (m : Int) := ⟨mo % 9, by omega, by omega⟩
  have HM := Lib.hid hm
  clear hm
  go_enter Try.func6, Try.ntmps6
  go_wp2_with fail
  refine (new_good k _ (by omega) _ hk1 (by omega)).mono ?_
  rintro e w1 ⟨rfl, hs1, hb1, _⟩
  have HO := Lib.hid (St.new hs1 hb1)
  clear hs1 hb1
  generalize hB : w.heap.size = B at *
  have HS : Hid (B = w.heap.size) := Lib.hid hB.symm
  clear hB hk
  go_wp2_with fail
  go_loopw [10] (fun i wr => ∃ (c : Nat) (ns : List Int), c ≤ k ∧ i = .int .i64 c ∧ ns.length = c ∧ St B w wr B k ns false) (fun i _ => k - (intOf i).toNat)
  case atStart => exact ⟨0, [], Nat.zero_le _, rfl, rfl, HO.out⟩
  case round =>
    clear HO
    obtain ⟨c, ns, hc, rfl, hn, hst⟩ := hrel
    have HO := Lib.hid hst
    clear hst
    by_cases hlt : c < k
    · have hr := HO.out.push (Nat.le_of_eq HS.out) (by omega) (c : Int)
      have HR := Lib.hid hr
      clear hr HO
      go_wp2_with fail
      refine HR.out.mono ?_
      rintro e w3 ⟨rfl, ht3⟩
      have HT3 := Lib.hid ht3
      clear ht3
      go_wp2_with fail
      refine HT3.out.over.mono ?_
      rintro e wa ⟨rfl, rfl⟩
      go_wp2
      go_roundw
      case rel => exact ⟨c + 1, _, by omega, by go_num, by simp [hn], HT3.out⟩
      case measure => simp [intOf]; omega
    · obtain rfl : c = k := by omega
      generalize wr = wx at *
      go_wp2_with fail
      go_loopw [11] (fun i wr => ∃ (d : Nat), d ≤ m ∧ i = .int .i64 d ∧ St B w wr B c ns (decide (0 < d))) (fun i _ => m - (intOf i).toNat)
      case atStart => exact ⟨0, Nat.zero_le _, rfl, by simpa using HO.out⟩
      case round =>
        clear HO
        obtain ⟨d, hd, rfl, hst⟩ := hrel
        have HO := Lib.hid hst
        clear hst
        by_cases hlt : d < m
        · have hlt2 : (d : Int) < (mo : Int) % 9 := by have := HM.out; omega
          have hr := HO.out.full (Nat.le_of_eq HS.out) hn (d : Int)
          have HR := Lib.hid hr
          clear hr HO
          go_wp2_with fail
          refine HR.out.mono ?_
          rintro e w3 ⟨rfl, ht3⟩
          have HT3 := Lib.hid ht3
          clear ht3
          go_wp2
          go_roundw
          case rel => exact ⟨d + 1, by omega, by go_num, by simpa using HT3.out⟩
          case measure => simp [intOf]; omega
        · obtain rfl : d = m := by omega
          obtain ⟨b, hb⟩ : ∃ b, decide (0 < d) = b := ⟨_, rfl⟩
          have hlt2 : ¬ (d : Int) < (mo : Int) % 9 := by have := HM.out; omega
          have hb' : decide ((0 : Int) < (mo : Int) % 9) = b := by rw [HM.out, ← hb]; simp
          have hbb : (b == b) = true := by simp
          rw [hb] at HO
          generalize wr = wy at *
          go_wp2_with fail
          go_loopw [12] (fun i wr => ∃ (q : Nat) (ms : List Int), q ≤ po ∧ i = .int .i64 q ∧ ms.length = c - q ∧ St B w wr B c ms b) (fun i _ => po - (intOf i).toNat)
          case atStart => exact ⟨0, ns, Nat.zero_le _, rfl, hn, HO.out⟩
          case round =>
            clear HO
            obtain ⟨q, ms, hq, rfl, hms, hst⟩ := hrel
            have HO := Lib.hid hst
            clear hst
            by_cases hlt : q < po
            · rcases nil_or_snoc ms with rfl | ⟨ms', x, rfl⟩
              · go_wp2_with fail
                refine (HO.out.empty (Nat.le_of_eq HS.out)).mono ?_
                rintro e w3 ⟨rfl, ht3⟩
                have HT3 := Lib.hid ht3
                clear ht3
                go_wp2
                go_roundw
                case rel => exact ⟨q + 1, [], by omega, by go_num, by simp at hms ⊢; omega, HT3.out⟩
                case measure => simp [intOf]; omega
              · go_wp2_with fail
                refine (HO.out.pop (Nat.le_of_eq HS.out)).mono ?_
                rintro e w3 ⟨rfl, ht3⟩
                have HT3 := Lib.hid ht3
                clear ht3
                go_wp2
                go_roundw
                case rel => exact ⟨q + 1, ms', by omega, by go_num, by simp at hms; omega, HT3.out⟩
                case measure => simp [intOf]; omega
            · obtain rfl : q = po := by omega
              obtain ⟨z, hz⟩ : ∃ z : Nat, c - q = z := ⟨_, rfl⟩
              have hz' : max (0 : Int) ((c : Int) - (q : Int)) = (z : Int) := by omega
              rw [hz] at hms
              have e1 : ((ms.length : Nat) : Int) = (z : Int) := by rw [hms]
              have hzz : ((z : Int) == (z : Int)) = true := by simp
              go_wp2_with fail
              refine HO.out.over.mono ?_
              rintro e wa ⟨rfl, rfl⟩
              go_wp2_with fail
              refine (HO.out.calm (Nat.le_of_eq HS.out)).mono ?_
              rintro e w3 ⟨rfl, ht3⟩
              have HT3 := Lib.hid ht3
              clear ht3
              go_wp2_with fail
              refine HT3.out.over.mono ?_
              rintro e wa ⟨rfl, rfl⟩
              go_wp2_with fail
              refine (HT3.out.calm (Nat.le_of_eq HS.out)).mono ?_
              rintro e w4 ⟨rfl, ht4⟩
              have HT4 := Lib.hid ht4
              clear ht4
              go_wp2_with fail
              refine HT4.out.len.mono ?_
              rintro e wa ⟨rfl, rfl⟩
              rw [e1]
              go_wp2_with fail
              refine (awake_any _).mono ?_
              rintro e w5 ⟨rfl, hb5⟩
              have HB5 := Lib.hid hb5
              clear hb5
              go_wp2
              go_ret
              exact ⟨rfl, (HS.out ▸ HT4.out.bel).trans (HB5.out.mono (HS.out ▸ HT4.out.bel).size)⟩
end Go.Proofs.Ytfiaajlagkfkjaa.Stk
