/-
  class.Of and the document's answers for layer 3 (Is, Size, Of, Per), for every argument.
-/
import Derived.Test.YtfifliepjmpgkaaDoorClassA
namespace Go.Proofs.YtfifliepjmpgkaaDoor.Class
open Go.RowKit

/-- The class of an object. -/
def clsI (f : Int) : Int := if f ≤ 1 then 0 else if f ≤ 3 then 1 else if f ≤ 7 then 2 else 3
theorem isB_nat {c : Nat} (h : c ≤ 3) : isB (c : Int) = true := isB_true.2 ⟨by omega, by omega⟩
theorem room_nat {c : Nat} (h : c ≤ 3) : roomI (c : Int) = if c = 0 then 1 else if c = 1 then 3 else if c = 2 then 7 else 15 := by
  rw [roomI_yes (isB_nat h)]
  have : c = 0 ∨ c = 1 ∨ c = 2 ∨ c = 3 := by omega
  rcases this with rfl | rfl | rfl | rfl <;> rfl

set_option maxHeartbeats 400000 in
theorem refis_any (k : Int) (w : World) : Calls Tryd.prog 15 #[.int .i64 k] w fun e w' => e = .returned (.bool (isB k)) ∧ w = w' := by
  by_cases h0 : 0 ≤ k
  · by_cases h4 : k ≤ 3
    · rw [show isB k = true from isB_true.2 ⟨h0, by omega⟩]
      go_enter Tryd.func15, Tryd.ntmps15
      go_wp2
      go_ret
      exact ⟨rfl, rfl⟩
    · rw [show isB k = false from isB_false.2 (by omega)]
      go_enter Tryd.func15, Tryd.ntmps15
      go_wp2
      go_ret
      exact ⟨rfl, rfl⟩
  · rw [show isB k = false from isB_false.2 (by omega)]
    go_enter Tryd.func15, Tryd.ntmps15
    go_wp2
    go_ret
    exact ⟨rfl, rfl⟩

/-- A size, by doubling. -/
def dbl (i : Nat) : Int := if i = 0 then 2 else if i = 1 then 4 else if i = 2 then 8 else 16
theorem dbl_siz {k : Nat} (h : k ≤ 3) : dbl k = sizI k := by
  have : k = 0 ∨ k = 1 ∨ k = 2 ∨ k = 3 := by omega
  rcases this with rfl | rfl | rfl | rfl <;> rfl

set_option maxHeartbeats 1000000 in
theorem refsize_any (k : Int) (w : World) : Calls Tryd.prog 27 #[.int .i64 k] w fun e w' => e = .returned (.int .i64 (sizI k)) ∧ w = w' := by
  by_cases hk : isB k = true
  · obtain ⟨hb0, hb4⟩ := isB_true.1 hk
    obtain ⟨n, rfl⟩ : ∃ n : Nat, k = n := ⟨k.toNat, by omega⟩
    go_enter Tryd.func27, Tryd.ntmps27
    go_wp2_with (go_at_call 15; refine (refis_any _ _).mono ?_; rintro e w' ⟨rfl, rfl⟩; rw [hk])
    clear hk
    go_loop [3, 4] (fun s i => ∃ c : Nat, c ≤ n ∧ i = .int .i64 c ∧ s = .int .i64 (dbl c)) (fun _ i => n - (intOf i).toNat)
    case atStart => exact ⟨0, by omega, rfl, rfl⟩
    case round =>
      obtain ⟨c, hc, rfl, rfl⟩ := hrel
      by_cases hlt : c < n
      · have hd : dbl (c + 1) = 2 * dbl c ∧ 2 ≤ dbl c ∧ dbl c ≤ 8 := by
          have : c = 0 ∨ c = 1 ∨ c = 2 := by omega
          rcases this with rfl | rfl | rfl <;> decide
        obtain ⟨hd1, hd2, hd3⟩ := hd
        have HD := Lib.hid hd1
        clear hd1
        go_wp2
        go_round
        case rel => exact ⟨c + 1, by omega, by go_num, by rw [HD.out]⟩
        case measure => simp [intOf]; omega
      · go_wp2
        go_ret
        refine ⟨ret_int ?_, rfl⟩
        rw [show c = n by omega, dbl_siz (by omega)]
  · have hk : isB k = false := by simpa using hk
    rw [sizI_no hk]
    go_enter Tryd.func27, Tryd.ntmps27
    go_wp2_with (go_at_call 15; refine (refis_any _ _).mono ?_; rintro e w' ⟨rfl, rfl⟩; rw [hk])
    go_ret
    exact ⟨rfl, rfl⟩

theorem siz_nat {c : Nat} (h : c ≤ 3) : sizI (c : Int) = if c = 0 then 2 else if c = 1 then 4 else if c = 2 then 8 else 16 := (dbl_siz h).symm

theorem per_step {n k : Int} (hk : isB k = true) (_hn : wordsB n = true) {c : Nat} (hc : ((c : Int) + 1) * sizI k ≤ n) : ((c + 1 : Nat) : Int) ≤ n / sizI k := by
  obtain ⟨hs0, hs1⟩ := sizI_bd hk
  rw [Int.le_ediv_iff_mul_le (by omega)]
  exact hc
theorem per_end {n k : Int} (hk : isB k = true) (_hn : wordsB n = true) {c : Nat} (h0 : (c : Int) ≤ n / sizI k) (hc : n < ((c : Int) + 1) * sizI k) : (c : Int) = n / sizI k := by
  obtain ⟨hs0, hs1⟩ := sizI_bd hk
  have := Int.ediv_lt_of_lt_mul (show 0 < sizI k by omega) hc
  omega
theorem per_mul {n k : Int} (hk : isB k = true) (hn : wordsB n = true) {c : Nat} (h0 : (c : Int) ≤ n / sizI k) : 0 ≤ ((c : Int) + 1) * sizI k ∧ ((c : Int) + 1) * sizI k ≤ 100000 := by
  obtain ⟨hs0, hs1⟩ := sizI_bd hk
  obtain ⟨hn0, hn1⟩ := wordsB_true.1 hn
  have h1 : n / sizI k ≤ 256 := Int.le_trans (Int.ediv_le_self _ (by omega)) hn1
  refine ⟨Int.mul_nonneg (by omega) (by omega), Int.le_trans (Int.mul_le_mul (show (c : Int) + 1 ≤ 257 by omega) hs1 (by omega) (by omega)) (by decide)⟩

set_option maxHeartbeats 1000000 in
theorem refper_any (n k : Int) (w : World) : Calls Tryd.prog 46 #[.int .i64 n, .int .i64 k] w fun e w' => e = .returned (.int .i64 (perI n k)) ∧ w = w' := by
  by_cases hk : isB k = true
  · by_cases hn : wordsB n = true
    · obtain ⟨hn0, hn1⟩ := wordsB_true.1 hn
      obtain ⟨hs0, hs1⟩ := sizI_bd hk
      rw [perI_yes hk hn]
      have hdiv0 : 0 ≤ n / sizI k := Int.ediv_nonneg (by omega) (by omega)
      go_enter Tryd.func46, Tryd.ntmps46
      go_wp2_with (go_at_call 15; refine (refis_any _ _).mono ?_; rintro e w' ⟨rfl, rfl⟩; rw [hk])
      have HK := Lib.hid hk
      have HN := Lib.hid hn
      clear hk hn
      go_loop [5] (fun i => ∃ c : Nat, (c : Int) ≤ n / sizI k ∧ i = .int .i64 c) (fun i => (n / sizI k).toNat - (intOf i).toNat)
      case atStart => exact ⟨0, by omega, rfl⟩
      case round =>
        obtain ⟨c, hc, rfl⟩ := hrel
        have hd : n / sizI k ≤ 256 := Int.le_trans (Int.ediv_le_self _ (by omega)) hn1
        obtain ⟨m0, m1⟩ := per_mul HK.out HN.out hc
        by_cases hlt : ((c : Int) + 1) * sizI k ≤ n
        · have hst := per_step HK.out HN.out hlt
          go_wp2_with (go_at_call 27; refine (refsize_any _ _).mono ?_; rintro e w' ⟨rfl, rfl⟩)
          go_round
          case rel => exact ⟨c + 1, hst, by go_num⟩
          case measure => simp [intOf]; omega
        · have hen := Lib.hid (per_end HK.out HN.out hc (Int.not_le.1 hlt))
          have hlt' : n < ((c : Int) + 1) * sizI k := Int.not_le.1 hlt
          clear hlt
          go_wp2_with (go_at_call 27; refine (refsize_any _ _).mono ?_; rintro e w' ⟨rfl, rfl⟩)
          go_ret
          exact ⟨ret_int hen.out, rfl⟩
    · have hn : wordsB n = false := by simpa using hn
      rw [perI_noW hn]
      rcases wordsB_false.1 hn with h | h
      · go_enter Tryd.func46, Tryd.ntmps46
        go_wp2_with (go_at_call 15; refine (refis_any _ _).mono ?_; rintro e w' ⟨rfl, rfl⟩; rw [hk])
        go_ret
        exact ⟨rfl, rfl⟩
      · have h' : 16 ≤ n := by omega
        go_enter Tryd.func46, Tryd.ntmps46
        go_wp2_with (go_at_call 15; refine (refis_any _ _).mono ?_; rintro e w' ⟨rfl, rfl⟩; rw [hk])
        go_ret
        exact ⟨rfl, rfl⟩
  · have hk : isB k = false := by simpa using hk
    rw [perI_noC hk]
    go_enter Tryd.func46, Tryd.ntmps46
    go_wp2_with (go_at_call 15; refine (refis_any _ _).mono ?_; rintro e w' ⟨rfl, rfl⟩; rw [hk])
    go_ret
    exact ⟨rfl, rfl⟩
end Go.Proofs.YtfifliepjmpgkaaDoor.Class
