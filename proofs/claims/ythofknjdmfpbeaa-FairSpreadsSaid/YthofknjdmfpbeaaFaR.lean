/-
  The law FairSpreads answers true, of every row of numbers, every who and every block.
-/
import Derived.Test.YthofknjdmfpbeaaFaQ
import Derived.Test.YthofknjdmfpbeaaFaJ
namespace Go.Proofs.Ythofknjdmfpbeaa.Fa
open Go.RowKit Go.Shelf
open Go.Proofs.Ythofknjdmfpbeaa.Row
attribute [local go_sem] Oper.semAt_some

/-- How many of the first stand ahead. -/
def ahdTo (v : Nat → Nat) (j x : Nat) : Nat := (List.range j).countP fun y => decide (v y < v x ∨ (v y = v x ∧ y < x))
theorem ahdTo_succ (v : Nat → Nat) (j x : Nat) : ahdTo v (j + 1) x = ahdTo v j x + if v j < v x ∨ (v j = v x ∧ j < x) then 1 else 0 := by
  unfold ahdTo
  rw [List.range_succ, List.countP_append]
  simp [List.countP_cons]
theorem ahdTo_le (v : Nat → Nat) (j x : Nat) : ahdTo v j x ≤ j := by
  have := List.countP_le_length (p := fun y => decide (v y < v x ∨ (v y = v x ∧ y < x))) (l := List.range j)
  simpa [ahdTo] using this
/-- What is spread is fair by twice the block, less one. -/
theorem SprP.fair {raw : List Nat} {n B c : Nat} {L : List Int} (h : SprP raw n B c L) (hnB : n ≤ B) (hB : 1 ≤ B) : fair L n (2 * B - 1) = true := fair_iff.2 fun i hi p hp => by
  have hl := h.len
  -- the first block that begins at i or behind
  have hq : ∃ b, i ≤ b * B ∧ b * B < i + B := by
    refine ⟨(i + B - 1) / B, ?_, ?_⟩
    · have := Nat.lt_div_mul_add (a := i + B - 1) (b := B) (by omega)
      omega
    · have := Nat.div_mul_le_self (i + B - 1) B
      omega
  obtain ⟨b, h1, h2⟩ := hq
  have hb : b < c := by
    rcases Nat.lt_or_ge b c with h | h
    · exact h
    · have := Nat.mul_le_mul_right B h
      omega
  obtain ⟨j, hj, h3, h4⟩ := win_mem.1 (h.part hnB hp hb)
  exact win_mem.2 ⟨b * B - i + j, by omega, by omega, by rw [show i + (b * B - i + j) = b * B + j by omega]; exact h4⟩

set_option maxHeartbeats 4000000 in
set_option maxRecDepth 100000 in
theorem spreads_big (p : Option Addr) (len cap : Nat) (who block : Int) (w : World) (h : 300 < len) :
    Calls Try.prog 5 #[.slice p len cap, .int .i64 who, .int .i64 block] w fun e w' => e = .returned (.bool true) ∧ Below w.heap.size w w' := by
  have i0 : (300 : Int) < (len : Int) := by omega
  go_enter Try.func5, Try.ntmps5
  go_wp2_with (go_at_call 8; refine (awake_any _).mono ?_; rintro e w1 ⟨rfl, hb⟩)
  go_ret
  exact ⟨rfl, hb⟩
set_option maxHeartbeats 4000000 in
set_option maxRecDepth 100000 in
theorem spreads_bad (p : Option Addr) (len cap : Nat) (who block : Int) (w : World) (hl : len ≤ 300) (h : who < 1 ∨ 16 < who ∨ block < who ∨ 1000 < block) :
    Calls Try.prog 5 #[.slice p len cap, .int .i64 who, .int .i64 block] w fun e w' => e = .returned (.bool true) ∧ Below w.heap.size w w' := by
  have i0 : ¬ (300 : Int) < (len : Int) := by omega
  have HS := Lib.hid (spread_bad (.slice p len cap) who block w h)
  by_cases h1 : who < 1
  · clear h
    go_enter Try.func5, Try.ntmps5
    go_wp2_with (first
      | (go_at_call 15; refine HS.out.mono ?_; rintro e wa ⟨rfl, rfl⟩)
      | (go_at_call 8; refine (awake_any _).mono ?_; rintro e w1 ⟨rfl, hb⟩))
    go_ret
    exact ⟨rfl, hb⟩
  by_cases h2 : 16 < who
  · clear h
    go_enter Try.func5, Try.ntmps5
    go_wp2_with (first
      | (go_at_call 15; refine HS.out.mono ?_; rintro e wa ⟨rfl, rfl⟩)
      | (go_at_call 8; refine (awake_any _).mono ?_; rintro e w1 ⟨rfl, hb⟩))
    go_ret
    exact ⟨rfl, hb⟩
  by_cases h3 : block < who
  · clear h
    go_enter Try.func5, Try.ntmps5
    go_wp2_with (first
      | (go_at_call 15; refine HS.out.mono ?_; rintro e wa ⟨rfl, rfl⟩)
      | (go_at_call 8; refine (awake_any _).mono ?_; rintro e w1 ⟨rfl, hb⟩))
    go_ret
    exact ⟨rfl, hb⟩
  · have h4 : 1000 < block := by omega
    clear h
    go_enter Try.func5, Try.ntmps5
    go_wp2_with (first
      | (go_at_call 15; refine HS.out.mono ?_; rintro e wa ⟨rfl, rfl⟩)
      | (go_at_call 8; refine (awake_any _).mono ?_; rintro e w1 ⟨rfl, hb⟩))
    go_ret
    exact ⟨rfl, hb⟩

set_option maxHeartbeats 8000000 in
set_option maxRecDepth 100000 in
theorem spreads_good (p : Option Addr) (raw : List Nat) (cap n B : Nat) (w : World) (hn1 : 1 ≤ n) (hn16 : n ≤ 16) (hnB : n ≤ B) (hB : B ≤ 1000) (hlen : raw.length ≤ 300) (hcap : raw.length ≤ cap ∧ cap ≤ maxLen) (hr : Ru w p raw) :
    Calls Try.prog 5 #[.slice p raw.length cap, .int .i64 n, .int .i64 B] w fun e w' => e = .returned (.bool true) ∧ Below w.heap.size w w' := by
  have i0 : ¬ (300 : Int) < (raw.length : Int) := by omega
  have i1 : ¬ (n : Int) < 1 := by omega
  have i2 : ¬ (16 : Int) < (n : Int) := by omega
  have i3 : ¬ (B : Int) < (n : Int) := by omega
  have i4 : ¬ (1000 : Int) < (B : Int) := by omega
  have HS := Lib.hid (spread_walk p raw cap n B w hn1 hn16 hnB hB hlen hcap hr)
  obtain ⟨N, hN, hN2⟩ : ∃ N : Nat, (raw.length : Int) / (B : Int) = (N : Int) ∧ N = raw.length / B := ⟨raw.length / B, rfl, rfl⟩
  have HN := Lib.hid hN2
  have hNB : N * B ≤ raw.length := by rw [hN2]; exact Nat.div_mul_le_self _ _
  have hBz : ¬ (B : Int) = 0 := by omega
  have hN300 : N ≤ 300 := Nat.le_trans (Nat.le_mul_of_pos_right N (by omega)) (Nat.le_trans hNB (by omega))
  have HNB := Lib.hid hNB
  have HR := Lib.hid hr
  clear hr hN2
  obtain ⟨len, hlenE⟩ : ∃ len : Nat, N * B = len := ⟨_, rfl⟩
  have hNBz : (N : Int) * (B : Int) = (len : Int) := by rw [← hlenE]; simp
  have hl3 : len ≤ 300 := by omega
  have HLE := Lib.hid hlenE
  clear hlenE hNB
  go_enter Try.func5, Try.ntmps5
  go_wp2_with (go_at_call 15; refine HS.out.mono ?_; rintro e w1 ⟨q, L, cq, rfl, hsp, hown, hb1⟩; rw [← HN.out] at hsp; have hll : L.length = len := hsp.len.trans HLE.out; have HSP := Lib.hid hsp; have HPK := Lib.hid (Pk.own hown (by omega)); have HB1 := Lib.hid hb1; clear hsp hown hb1; have hne : ((len : Int) != (len : Int)) = false := by simp)
  have HLL := Lib.hid hll
  clear hll
  simp only [show decide ((n : Int) < 1) = false by simp; omega, show decide ((16 : Int) < (n : Int)) = false by simp; omega, show decide (B < n) = false by simp; omega, show decide ((1000 : Int) < (B : Int)) = false by simp; omega, Bool.or_false]
  go_loopw [9, 10, 11, 12, 13, 14] (fun b _ _ _ _ _ wr => ∃ c : Nat, c ≤ N ∧ b = .int .i64 c ∧ ∃ k, wr = w1.drewN k) (fun b _ _ _ _ _ _ => N - (intOf b).toNat)
  case atStart => exact ⟨0, by omega, rfl, 0, rfl⟩
  case round =>
    obtain ⟨c, hc, rfl, k, rfl⟩ := hrel
    by_cases hlt : c < N
    · have j0 : (c : Int) < (N : Int) := by omega
      obtain ⟨X, hX⟩ : ∃ X : Nat, c * B = X := ⟨_, rfl⟩
      have hXB : X + B ≤ len := by
        have h1 := Nat.mul_le_mul_right B (show c + 1 ≤ N by omega)
        rw [Nat.succ_mul, hX, HLE.out] at h1
        exact h1
      have hlr : len ≤ raw.length := by rw [← HLE.out]; exact HNB.out
      have hXz : (c : Int) * (B : Int) = (X : Int) := by rw [← hX]; simp
      have hXz1 : ((c : Int) + 1) * (B : Int) = (X : Int) + (B : Int) := by rw [Int.add_mul, hXz]; omega
      have HXE := Lib.hid hX
      obtain ⟨_, g, off, rfl, _⟩ := HR.out 0 (by omega)
      have hcell : ∀ j, j < B → ∀ k, (w1.drewN k).cell? ⟨g, off + X + j, none⟩ = some (.int .u16 (raw.getD (X + j) 0 : Nat)) := fun j hj k => by
        obtain ⟨_, g', off', e, hx⟩ := HR.out.later HB1.out (X + j) (by omega)
        cases e
        rw [show off + X + j = off + (X + j) by omega]
        exact hx
      have HCE := Lib.hid hcell
      have hgot : ∀ j, j < len → ∃ g off, q = some ⟨g, off, none⟩ ∧ ∀ k, (w1.drewN k).cell? ⟨g, off + j, none⟩ = some (.int .i64 (L.getD j 0)) := fun j hj => by
        obtain ⟨g, off, e, hx⟩ := HPK.out.rd j (by rw [HLL.out]; exact hj)
        exact ⟨g, off, e, fun k => hx⟩
      have HGO := Lib.hid hgot
      have x0 : (0 : Int) ≤ (X : Int) := Int.natCast_nonneg _
      have x1 : (X : Int) ≤ (X : Int) + (B : Int) := by omega
      have x2 : (X : Int) + (B : Int) ≤ (cap : Int) := by omega
      clear hcell hgot hX
      go_wp2_with fail
      rw [show X + B - X = B by omega]
      go_loopw [11, 12, 13] (fun i _ _ wr => ∃ d : Nat, d ≤ n ∧ i = .int .i64 d ∧ ∃ k, wr = w1.drewN k) (fun i _ _ _ => n - (intOf i).toNat)
      case atStart => exact ⟨0, by omega, rfl, k, rfl⟩
      case round =>
        obtain ⟨d, hd, rfl, k, rfl⟩ := hrel
        by_cases hdn : d < n
        · have d0 : (d : Int) < (n : Int) := by omega
          have d1 : (0 : Int) ≤ (d : Int) := Int.natCast_nonneg _
          have d2 : (d : Int) < (B : Int) := by omega
          go_wp2_with fail
          go_loopw [12, 13] (fun s j wr => ∃ e : Nat, e ≤ n ∧ j = .int .i64 e ∧ s = .int .i64 (ahdTo (fun j => raw.getD (X + j) 0) e d : Nat) ∧ ∃ k, wr = w1.drewN k) (fun _ j _ => n - (intOf j).toNat)
          case atStart => exact ⟨0, by omega, rfl, rfl, k, rfl⟩
          case round =>
            obtain ⟨e, he, rfl, rfl, k, rfl⟩ := hrel
            have hal := ahdTo_le (fun j => raw.getD (X + j) 0) e d
            by_cases hen : e < n
            · have e0 : (e : Int) < (n : Int) := by omega
              have e1 : (0 : Int) ≤ (e : Int) := Int.natCast_nonneg _
              have e2 : (e : Int) < (B : Int) := by omega
              have hxe := HCE.out e (by omega) k
              have hxd := HCE.out d (by omega) k
              have hs := ahdTo_succ (fun j => raw.getD (X + j) 0) e d
              have HSU := Lib.hid hs
              clear hs
              generalize ahdTo (fun j => raw.getD (X + j) 0) e d = A at *
              generalize raw.getD (X + e) 0 = ve at *
              generalize raw.getD (X + d) 0 = vd at *
              generalize hW : w1.drewN k = W at *
              by_cases h1 : ve < vd
              · have z1 : (ve : Int) < (vd : Int) := by omega
                rw [if_pos (.inl h1)] at HSU
                go_wp2_with fail
                go_quiet (fail)
                go_wp2_with fail
                go_roundw
                case rel => exact ⟨e + 1, by omega, by go_num, by rw [HSU.out]; go_num, k + nq, by rw [← hW, World.drewN_drewN]⟩
                case measure => simp [intOf]; omega
              · have z1 : ¬ (ve : Int) < (vd : Int) := by omega
                by_cases h2 : ve = vd
                · subst h2
                  have z2 : ((ve : Int) == (ve : Int)) = true := by simp
                  by_cases h3 : e < d
                  · have z3 : (e : Int) < (d : Int) := by omega
                    rw [if_pos (.inr ⟨rfl, h3⟩)] at HSU
                    go_wp2_with fail
                    go_quiet (fail)
                    go_wp2_with fail
                    go_roundw
                    case rel => exact ⟨e + 1, by omega, by go_num, by rw [HSU.out]; go_num, k + nq, by rw [← hW, World.drewN_drewN]⟩
                    case measure => simp [intOf]; omega
                  · have z3 : ¬ (e : Int) < (d : Int) := by omega
                    rw [if_neg (by omega)] at HSU
                    go_wp2_with fail
                    go_quiet (fail)
                    go_wp2_with fail
                    go_roundw
                    case rel => exact ⟨e + 1, by omega, by go_num, by rw [HSU.out]; rfl, k + nq, by rw [← hW, World.drewN_drewN]⟩
                    case measure => simp [intOf]; omega
                · have z2 : ((ve : Int) == (vd : Int)) = false := by simp; omega
                  rw [if_neg (by omega)] at HSU
                  go_wp2_with fail
                  go_quiet (fail)
                  go_wp2_with fail
                  go_roundw
                  case rel => exact ⟨e + 1, by omega, by go_num, by rw [HSU.out]; rfl, k + nq, by rw [← hW, World.drewN_drewN]⟩
                  case measure => simp [intOf]; omega
            · obtain rfl : e = n := by omega
              have hap := ahd_lt (v := fun j => raw.getD (X + j) 0) hdn
              have hpos := HSP.out.hd c hlt d hdn
              rw [HXE.out] at hpos
              have hae : ahdTo (fun j => raw.getD (X + j) 0) e d = ahd (fun j => raw.getD (X + j) 0) e d := rfl
              rw [hae]
              generalize ahd (fun j => raw.getD (X + j) 0) e d = A at *
              obtain ⟨g2, off2, rfl, hx2⟩ := HGO.out (X + A) (by omega)
              have hx := hx2 k
              rw [hpos] at hx
              have a0 : (0 : Int) ≤ (X : Int) + (A : Int) := by omega
              have a1 : (X : Int) + (A : Int) < (len : Int) := by omega
              have a2 : ((X : Int) + (A : Int)).toNat = X + A := by omega
              have a3 : ((d : Int) != (d : Int)) = false := by simp
              clear hx2 hpos hae hal
              generalize hW : w1.drewN k = W at *
              go_wp2_with fail
              go_roundw
              case rel => exact ⟨d + 1, by omega, by go_num, k, hW.symm⟩
              case measure => simp [intOf]; omega
        · obtain rfl : d = n := by omega
          go_wp2_with fail
          go_loopw [14] (fun i wr => ∃ e : Nat, d ≤ e ∧ e ≤ B ∧ i = .int .i64 e ∧ ∃ k, wr = w1.drewN k) (fun i _ => B - (intOf i).toNat)
          case atStart => exact ⟨d, by omega, by omega, rfl, k, rfl⟩
          case round =>
            obtain ⟨e, he1, he2, rfl, k, rfl⟩ := hrel
            by_cases heB : e < B
            · have e0 : (e : Int) < (B : Int) := by omega
              have e1 : (0 : Int) ≤ (e : Int) := Int.natCast_nonneg _
              have htl := HSP.out.tl c hlt e he1 heB
              rw [HXE.out] at htl
              have hxe := HCE.out e heB k
              obtain ⟨g2, off2, rfl, hx2⟩ := HGO.out (X + e) (by omega)
              have hx := hx2 k
              rw [htl] at hx
              have hve : raw.getD (X + e) 0 < 65536 := (HR.out (X + e) (by omega)).1
              generalize raw.getD (X + e) 0 = ve at *
              have a0 : (0 : Int) ≤ (X : Int) + (e : Int) := by omega
              have a1 : (X : Int) + (e : Int) < (len : Int) := by omega
              have a2 : ((X : Int) + (e : Int)).toNat = X + e := by omega
              have hmz : ((ve % d : Nat) : Int) = (ve : Int) % (d : Int) := rfl
              have hdz : ¬ (d : Int) = 0 := by omega
              have a3 : ((ve : Int) % (d : Int) != (ve : Int) % (d : Int)) = false := by simp
              rw [hmz] at hx
              clear hx2 htl hmz
              generalize hW : w1.drewN k = W at *
              go_wp2_with fail
              go_quiet (fail)
              go_wp2_with fail
              go_roundw
              case rel => exact ⟨e + 1, by omega, by omega, by go_num, k + nq, by rw [← hW, World.drewN_drewN]⟩
              case measure => simp [intOf]; omega
            · obtain rfl : e = B := by omega
              go_wp2_with fail
              go_roundw
              case rel => exact ⟨c + 1, by omega, by go_num, k, rfl⟩
              case measure => simp [intOf]; omega
    · obtain rfl : c = N := by omega
      have HBk : Hid (Below w.heap.size w (w1.drewN k)) := Lib.hid (below_drewN HB1.out k)
      have hPk := HPK.out.later (w' := w1.drewN k) (below_drewN (Below.refl _ w1) k)
      have HFA := Lib.hid (fair_anyL (n : Int) (2 * (B : Int) - 1) _ hPk HLL.out)
      have hfi : fairI L (n : Int) (2 * (B : Int) - 1) = true := by rw [show 2 * (B : Int) - 1 = ((2 * B - 1 : Nat) : Int) by omega, fairI_nat L n (2 * B - 1) hn1 (by omega)]; exact HSP.out.fair hnB (by omega)
      rw [hfi] at HFA
      clear hfi hPk
      generalize w1.drewN k = W at *
      by_cases h0 : len = 0
      · have hz : ((len : Int) == 0) = true := by simp; omega
        go_wp2_with (go_at_call 8; refine (awake_any _).mono ?_; rintro e w2 ⟨rfl, hb2⟩)
        go_ret
        exact ⟨rfl, HBk.out.trans (hb2.mono HBk.out.size)⟩
      · have hz : ((len : Int) == 0) = false := by simp; omega
        go_wp2_with (go_at_call 10; fail)
        refine HFA.out.mono ?_
        rintro e w2 ⟨rfl, hb2⟩
        have HB2 := Lib.hid (HBk.out.trans (hb2.mono HBk.out.size))
        clear hb2
        go_wp2_with (go_at_call 8; refine (awake_any _).mono ?_; rintro e w3 ⟨rfl, hb3⟩)
        go_ret
        exact ⟨rfl, HB2.out.trans (hb3.mono HB2.out.size)⟩

theorem spreads_walk (p : Option Addr) (raw : List Nat) (cap : Nat) (who block : Int) (w : World) (hcap : raw.length ≤ cap ∧ cap ≤ maxLen) (hr : Ru w p raw) :
    Calls Try.prog 5 #[.slice p raw.length cap, .int .i64 who, .int .i64 block] w fun e w' => e = .returned (.bool true) ∧ Below w.heap.size w w' := by
  by_cases hbig : 300 < raw.length
  · exact spreads_big p raw.length cap who block w hbig
  by_cases hbad : who < 1 ∨ 16 < who ∨ block < who ∨ 1000 < block
  · exact spreads_bad p raw.length cap who block w (by omega) hbad
  · obtain ⟨n, rfl⟩ : ∃ n : Nat, who = n := ⟨who.toNat, by omega⟩
    obtain ⟨B, rfl⟩ : ∃ B : Nat, block = B := ⟨block.toNat, by omega⟩
    exact spreads_good p raw cap n B w (by omega) (by omega) (by omega) (by omega) (by omega) hcap hr
end Go.Proofs.Ythofknjdmfpbeaa.Fa
