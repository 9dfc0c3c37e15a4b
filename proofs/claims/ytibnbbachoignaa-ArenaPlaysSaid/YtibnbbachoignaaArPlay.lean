/-
  The law ArenaPlays answers true, for every size, every row of what is stored and loaded, and one more.
-/
import Derived.Test.YtibnbbachoignaaArH
namespace Go.Proofs.Ytibnbbachoignaa.Arena
open Go.RowKit

set_option maxRecDepth 100000 in
set_option maxHeartbeats 8000000 in
theorem plays_walk (s : Nat) (hs : s < 256) (pa : Option Addr) (ca : Nat) (l : List (Int × Nat × Bool)) (ma : Int) (mw : Nat) (ms : Bool) (w : World) (ha : WordsP w.heap.size w pa l) (hla : l.length ≤ maxLen) :
    Calls Try.prog 3 #[.int .u8 s, .slice pa l.length ca, .agg #[.int .i64 ma, .int .u64 mw, .bool ms]] w fun e w' => e = .returned (.bool true) ∧ Below w.heap.size w w' := by
  unfold maxLen at hla
  by_cases hbig : 200 < l.length
  · have h1 : (200 : Int) < (l.length : Int) := by omega
    go_enter Try.func3, Try.ntmps3
    go_wp2_with fail
    refine (awake_any _).mono ?_
    rintro e w1 ⟨rfl, hb1⟩
    have HB1 := Lib.hid (((Below.refl _ w).alloc (Nat.le_refl _) _).trans (hb1.mono (by simp)))
    clear hb1
    go_wp2
    go_ret
    exact ⟨rfl, HB1.out⟩
  have h1 : (l.length : Int) ≤ 200 := by omega
  have hd1 : decide ((200 : Int) < (l.length : Int)) = false := by simpa using h1
  go_enter Try.func3, Try.ntmps3
  go_wp2_with fail
  have hnI : (1 : Int) + (s : Int) % 60 = ((s % 60 + 1 : Nat) : Int) := by omega
  rw [hnI]
  have hn60 : s % 60 + 1 ≤ 60 := by omega
  have hn1 : 1 ≤ s % 60 + 1 := by omega
  clear hnI
  generalize s % 60 + 1 = n at *
  obtain ⟨w0, hw0⟩ : ∃ w0, w.alloc (.cells #[.int .i64 ma, .int .u64 mw, .bool ms] 25) = w0 := ⟨_, rfl⟩
  have hsz0 : w0.heap.size = w.heap.size + 1 := by rw [← hw0]; simp
  have hbw0 : Below w.heap.size w w0 := by rw [← hw0]; exact (Below.refl _ w).alloc (Nat.le_refl _) _
  have HA := Lib.hid (ha.below hbw0)
  have cm1 : w0.cell? ⟨w.heap.size, 0, none⟩ = some (.int .i64 ma) := by rw [← hw0]; simp
  have cm2 : w0.cell? ⟨w.heap.size, 1, none⟩ = some (.int .u64 mw) := by rw [← hw0]; simp
  rw [hw0]
  have HBW0 := Lib.hid hbw0
  have HM1 := Lib.hid cm1
  have HM2 := Lib.hid cm2
  clear hw0 ha hbw0 cm1 cm2
  refine (new_lit n _ rfl _ (by omega) (by omega)).mono ?_
  rintro e w1 ⟨B, G, rfl, hs1, hB1, hG1, hB2, hG2, hb1⟩
  have HS1 := Lib.hid hs1
  have HB1 := Lib.hid hb1
  clear hs1 hb1
  go_wp2_with fail
  refine (len_any w1 HS1.out).mono ?_
  rintro e wa ⟨rfl, rfl⟩
  have hl0 : (List.replicate n 0).length = n := by simp
  rw [hl0]
  clear hl0
  have hmk := make_words n (by omega)
  have hnn : ((n : Int) != (n : Int)) = false := by simp
  go_wp2_with fail
  have hplay : Play w0.heap.size w0 (w1.alloc (.cells (zeroCells n) 23)) B G w1.heap.size n 0 0 := by
    have hb := (Below.refl _ w1).alloc (Nat.le_refl _) (.cells (zeroCells n) 23)
    refine ⟨⟨List.replicate n 0, by simp, HS1.out.below hb hB2 hG2, by simp, fun j hj => ?_, fun j hj => by simp⟩, HB1.out.trans (hb.mono HB1.out.size), Nat.lt_of_lt_of_le hG2 hb.size, by simp, hB1, hG1, HB1.out.size, by omega, by omega⟩
    rw [wd_zero]
    simp [zeroCells_at n j (by simpa using hj)]
  have HP := Lib.hid hplay
  clear hplay HS1 HB1 hB1 hG1 hB2 hG2 hmk
  generalize w1.alloc (.cells (zeroCells n) 23) = w2 at *
  generalize w1.heap.size = R at *
  go_loopw [11, 12, 13] (fun lv sv i wr => ∃ k ld st : Nat, k ≤ l.length ∧ i = .int .i64 k ∧ ld ≤ k ∧ st ≤ k ∧ lv = .int .i64 ld ∧ sv = .int .i64 st ∧ Play w0.heap.size w0 wr B G R n ld st) (fun _ _ i _ => l.length - (intOf i).toNat)
  case atStart => exact ⟨0, 0, 0, Nat.zero_le _, rfl, Nat.le_refl _, Nat.le_refl _, rfl, rfl, HP.out⟩
  case round =>
    clear HP
    obtain ⟨k, ld, st, hk, rfl, hld, hst, rfl, rfl, hpl⟩ := hrel
    have HO := Lib.hid hpl
    by_cases hlt : k < l.length
    · obtain ⟨b, off, rfl, hbS, hc1, hc2, hc3⟩ := (HA.out.below ((HO.out.bel).mono (by omega))) k hlt
      clear hpl
      have i1 : (0 : Int) ≤ (k : Int) := Int.natCast_nonneg _
      have i2 : (k : Int) < (l.length : Int) := by omega
      generalize l[k]?.getD (0, 0, false) = pr at *
      obtain ⟨a, x, bb⟩ := pr
      have HOA := Lib.hid (HO.out.alloc (Nat.le_refl _) (.cells #[.int .i64 a, .int .u64 x, .bool bb] 25))
      have hX : wr.heap.size < (wr.alloc (.cells #[.int .i64 a, .int .u64 x, .bool bb] 25)).heap.size := by simp
      have hXB : wr.heap.size ≠ B := by
        obtain ⟨ws, _, h2, _⟩ := HO.out.both
        have := h2.ltB
        omega
      have hXG : wr.heap.size ≠ G := by have := HO.out.hG; omega
      have hXR : wr.heap.size ≠ R := by have := HO.out.hR; omega
      have hx1 : (wr.alloc (.cells #[.int .i64 a, .int .u64 x, .bool bb] 25)).cell? ⟨wr.heap.size, 0, none⟩ = some (.int .i64 a) := by simp
      have hx2 : (wr.alloc (.cells #[.int .i64 a, .int .u64 x, .bool bb] 25)).cell? ⟨wr.heap.size, 1, none⟩ = some (.int .u64 x) := by simp
      have hx3 : (wr.alloc (.cells #[.int .i64 a, .int .u64 x, .bool bb] 25)).cell? ⟨wr.heap.size, 2, none⟩ = some (.bool bb) := by simp
      have HX1 := Lib.hid hx1
      have HX2 := Lib.hid hx2
      clear hx1 hx2 hx3
      by_cases hz : a = 0
      · subst hz
        have hce : codeN n 0 = 6 := by unfold codeN; rfl
        clear HO
        cases bb with
        | true =>
          have HR := Lib.hid (HOA.out.store_bad (Nat.le_refl _) (by omega) 0 x 6 hce (by decide))
          clear HOA
          go_wp2_with (go_at_call 10; refine HR.out.mono ?_; rintro e w3 ⟨rfl, hp3, _⟩)
          go_roundw
          case rel => exact ⟨k + 1, ld, st, by omega, by go_num, by omega, by omega, rfl, rfl, hp3⟩
          case measure => simp [intOf]; omega
        | false =>
          have HR := Lib.hid (HOA.out.load_bad (Nat.le_refl _) (by omega) 0 6 hce (by decide))
          clear HOA
          go_wp2_with (go_at_call 11; refine HR.out.mono ?_; rintro e w3 ⟨rfl, hp3, _⟩)
          go_roundw
          case rel => exact ⟨k + 1, ld, st, by omega, by go_num, by omega, by omega, rfl, rfl, hp3⟩
          case measure => simp [intOf]; omega
      by_cases hz2 : a < 0
      · skip
        have a0 : (a == 0) = false := by rw [beq_eq_false_iff_ne]; exact hz
        have hce : codeN n a = 4 := by unfold codeN; rw [if_neg hz, if_pos (Or.inl hz2)]
        clear HO
        cases bb with
        | true =>
          have HR := Lib.hid (HOA.out.store_bad (Nat.le_refl _) (by omega) a x 4 hce (by decide))
          clear HOA
          go_wp2_with (go_at_call 10; refine HR.out.mono ?_; rintro e w3 ⟨rfl, hp3, _⟩)
          go_roundw
          case rel => exact ⟨k + 1, ld, st, by omega, by go_num, by omega, by omega, rfl, rfl, hp3⟩
          case measure => simp [intOf]; omega
        | false =>
          have HR := Lib.hid (HOA.out.load_bad (Nat.le_refl _) (by omega) a 4 hce (by decide))
          clear HOA
          go_wp2_with (go_at_call 11; refine HR.out.mono ?_; rintro e w3 ⟨rfl, hp3, _⟩)
          go_roundw
          case rel => exact ⟨k + 1, ld, st, by omega, by go_num, by omega, by omega, rfl, rfl, hp3⟩
          case measure => simp [intOf]; omega
      by_cases hz3 : (n : Int) < a
      · skip
        have a0 : (a == 0) = false := by rw [beq_eq_false_iff_ne]; exact hz
        have hce : codeN n a = 4 := by unfold codeN; rw [if_neg hz, if_pos (Or.inr hz3)]
        clear HO
        cases bb with
        | true =>
          have HR := Lib.hid (HOA.out.store_bad (Nat.le_refl _) (by omega) a x 4 hce (by decide))
          clear HOA
          go_wp2_with (go_at_call 10; refine HR.out.mono ?_; rintro e w3 ⟨rfl, hp3, _⟩)
          go_roundw
          case rel => exact ⟨k + 1, ld, st, by omega, by go_num, by omega, by omega, rfl, rfl, hp3⟩
          case measure => simp [intOf]; omega
        | false =>
          have HR := Lib.hid (HOA.out.load_bad (Nat.le_refl _) (by omega) a 4 hce (by decide))
          clear HOA
          go_wp2_with (go_at_call 11; refine HR.out.mono ?_; rintro e w3 ⟨rfl, hp3, _⟩)
          go_roundw
          case rel => exact ⟨k + 1, ld, st, by omega, by go_num, by omega, by omega, rfl, rfl, hp3⟩
          case measure => simp [intOf]; omega
      · skip
        obtain ⟨j, hj, rfl⟩ : ∃ j : Nat, j < n ∧ a = (j + 1 : Nat) := ⟨a.toNat - 1, by omega, by omega⟩
        have j0 : (((j + 1 : Nat) : Int) == 0) = false := by rw [beq_eq_false_iff_ne]; omega
        have j1 : ¬ (((j + 1 : Nat) : Int) < 0) := by omega
        have j2 : ¬ ((n : Int) < ((j + 1 : Nat) : Int)) := by omega
        have j3 : ((j + 1 : Nat) : Int) - 1 = j := by omega
        have j4 : (0 : Int) ≤ (j : Int) := Int.natCast_nonneg _
        have j5 : (j : Int) < (n : Int) := by omega
        clear HO
        cases bb with
        | true =>
          have HR := Lib.hid (HOA.out.store_good (Nat.le_refl _) (by omega) j hj x)
          clear HOA
          go_wp2_with (go_at_call 10; refine HR.out.mono ?_; rintro e w3 ⟨rfl, hp3, ht3, ⟨u, hcu⟩, hfu⟩; have y1 := (ht3.cell (p := ⟨wr.heap.size, 0, none⟩) hX hXB hXG).trans HX1.out; have y2 := (ht3.cell (p := ⟨wr.heap.size, 1, none⟩) hX hXB hXG).trans HX2.out)
          go_roundw
          case rel => exact ⟨k + 1, ld, st + 1, by omega, by go_num, by omega, by omega, rfl, by go_num, hp3⟩
          case measure => simp [intOf]; omega
        | false =>
          have HR := Lib.hid (HOA.out.load_good (Nat.le_refl _) (by omega) j hj)
          clear HOA
          go_wp2_with (go_at_call 11; refine HR.out.mono ?_; rintro e w3 ⟨v, rfl, hp3, ht3, hcu⟩; have y1 := (ht3.cell (p := ⟨wr.heap.size, 0, none⟩) hX hXB hXG).trans HX1.out)
          go_roundw
          case rel => exact ⟨k + 1, ld + 1, st, by omega, by go_num, by omega, by omega, by go_num, rfl, hp3⟩
          case measure => simp [intOf]; omega
    · obtain ⟨ws, hwl, h2, h3⟩ := hpl.both
      have hBl := h2.ltB
      have hGl := hpl.hG
      have hRl := hpl.hR
      have hRB := hpl.n1
      have hRG := hpl.n2
      have hb1 := hpl.b1
      have hb2 := hpl.b2
      have HS := Lib.hid h2
      have HW := Lib.hid h3
      have HB := Lib.hid hpl.bel
      clear hpl h2 h3 HO
      go_wp2_with fail
      refine (copy_any wr HS.out).mono ?_
      rintro e w4 ⟨C, H, cap4, rfl, hs4, hC1, hH1, hC2, hH2, hb4⟩
      have HC4 := Lib.hid hs4
      have HS4 := Lib.hid (HS.out.below hb4 hBl hGl)
      have HW4 := Lib.hid (HW.out.below hb4 hRl)
      have HB4 := Lib.hid (HB.out.trans (hb4.mono HB.out.size))
      have hz4 := hb4.size
      have hm1 := (HB4.out.cell (p := ⟨w.heap.size, 0, none⟩) (by show w.heap.size < w0.heap.size; omega)).trans HM1.out
      have hm2 := (HB4.out.cell (p := ⟨w.heap.size, 1, none⟩) (by show w.heap.size < w0.heap.size; omega)).trans HM2.out
      clear hs4 hb4 HS HW HB
      go_wp2_with fail
      refine (store_any w4 HS4.out (by omega) (by omega) ma mw).mono ?_
      rintro e w5 ⟨rfl, _, t5⟩
      have HC5 := Lib.hid (HC4.out.two t5 hH2 (by omega) (by omega) (by omega) (by omega))
      have HW5 := Lib.hid (HW4.out.two t5 (by omega) hRB hRG)
      have HB5 := Lib.hid (HB4.out.trans (t5.below hb1 hb2 HB4.out.size))
      have hz5 := t5.size
      clear t5 HC4 HS4 HW4 HB4 hm1 hm2
      go_wp2_with fail
      refine (dump_any w5 HC5.out).mono ?_
      rintro e w6 ⟨D, cap6, rfl, hD1, hD2, hwd, hb6⟩
      have HC6 := Lib.hid (HC5.out.below hb6 (by omega) (by omega))
      have HW6 := Lib.hid (HW5.out.below hb6 (by omega))
      have HB6 := Lib.hid (HB5.out.trans (hb6.mono HB5.out.size))
      have HD6 := Lib.hid hwd
      have hz6 := hb6.size
      have hcap6 := hwd.capn
      have hnn2 : ((ws.length : Int) != (n : Int)) = false := by rw [hwl]; simp
      clear hb6 hwd HC5 HW5 HB5 hlt hk
      go_wp2_with fail
      go_loopw [20] (fun i wq => ∃ j : Nat, j ≤ n ∧ i = .int .i64 j ∧ Below w6.heap.size w6 wq) (fun i _ => n - (intOf i).toNat)
      case atStart => exact ⟨0, Nat.zero_le _, rfl, Below.refl _ _⟩
      case round =>
        obtain ⟨j, hj, rfl, hb7⟩ := hrel
        have HB7 := Lib.hid hb7
        by_cases hlj : j < n
        · have c1 := (HD6.out.below hb7 hD2).at_ j (by omega)
          have c2 := (HW6.out.below hb7 (by omega)).at_ j (by omega)
          clear hb7
          have j4 : (0 : Int) ≤ (j : Int) := Int.natCast_nonneg _
          have j5 : (j : Int) < (n : Int) := by omega
          have j6 : (j : Int) < (ws.length : Int) := by omega
          have j7 : (((wd ws j : Nat) : Int) != ((wd ws j : Nat) : Int)) = false := by simp
          go_wp2_with fail
          go_quiet (fail)
          go_wp2_with fail
          go_roundw
          case rel => exact ⟨j + 1, by omega, by go_num, below_drewN HB7.out _⟩
          case measure => simp [intOf]; omega
        · have HC7 := Lib.hid (HC6.out.below hb7 (by omega) (by omega))
          have HBW7 := Lib.hid (HBW0.out.trans ((HB6.out.trans (hb7.mono HB6.out.size)).mono (by omega)))
          clear hb7
          go_wp2_with fail
          refine (loads_any _ HC7.out).mono ?_
          rintro e wa ⟨rfl, rfl⟩
          have hld : ((ld : Int) == (ld : Int)) = true := by simp
          have hst : ((st : Int) == (st : Int)) = true := by simp
          have hnn3 : ((ws.length : Int) == (n : Int)) = true := by rw [hwl]; simp
          go_wp2_with fail
          refine (stores_any _ HC7.out).mono ?_
          rintro e wa ⟨rfl, rfl⟩
          go_wp2_with fail
          refine (len_any _ HC7.out).mono ?_
          rintro e wa ⟨rfl, rfl⟩
          go_wp2_with fail
          refine (awake_any _).mono ?_
          rintro e w10 ⟨rfl, hb10⟩
          have HB10 := Lib.hid hb10
          clear hb10
          go_wp2
          go_ret
          exact ⟨rfl, HBW7.out.trans (HB10.out.mono HBW7.out.size)⟩
end Go.Proofs.Ytibnbbachoignaa.Arena
