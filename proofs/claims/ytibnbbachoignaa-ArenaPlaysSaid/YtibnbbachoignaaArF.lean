/-
  An arena above what lay, through stores and loads; the law ArenaCounts answers true, for every size and every row of addresses.
-/
import Derived.Test.YtibnbbachoignaaArD
import Derived.Test.YtibnbbachoignaaArE
namespace Go.Proofs.Ytibnbbachoignaa.Arena
open Go.RowKit

/-- The numbers of a row that came in, below S. -/
def IntsP (S : Nat) (W : World) (p : Option Addr) (zs : List Int) : Prop := ∀ j, j < zs.length → ∃ b off, p = some ⟨b, off, none⟩ ∧ b < S ∧ W.cell? ⟨b, off + j, none⟩ = some (.int .i64 (zs[j]?.getD 0))
theorem IntsP.below {S : Nat} {W W' : World} {p : Option Addr} {zs : List Int} (h : IntsP S W p zs) (hb : Below S W W') : IntsP S W' p zs := fun j hj => by
  obtain ⟨b, off, e, hb', hc⟩ := h j hj
  exact ⟨b, off, e, hb', (hb.cell (p := ⟨b, off + j, none⟩) hb').trans hc⟩

/-- An arena in memory, above what lay. -/
structure One (S : Nat) (w wr : World) (B G n ld st : Nat) : Prop where
  one : ∃ cap ws, ws.length = n ∧ ArIs wr B G cap ws ld st
  bel : Below S w wr
  hG : G < wr.heap.size
  b1 : S ≤ B
  b2 : S ≤ G
theorem One.store {S : Nat} {w wr : World} {B G n ld st : Nat} (h : One S w wr B G n ld st) (hS : S ≤ w.heap.size) (hst : st < 1000000) (a : Int) (x : Nat) (z : Int) (hz : z = x) :
    Calls Try.prog 10 #[.pointer (some ⟨B, 0, none⟩), .int .i64 a, .int .u64 z] wr fun e w' => e = .returned (.int .i64 (codeN n a)) ∧ One S w w' B G n ld (st + oneN n a) := by
  subst hz
  obtain ⟨cap, ws, rfl, hs⟩ := h.one
  refine (store_any wr hs h.hG hst a x).mono fun e w' ⟨he, h1, ht⟩ => ⟨he, ⟨cap, _, putS_length _ _ _, h1⟩, h.bel.trans (ht.below h.b1 h.b2 (Nat.le_trans hS h.bel.size)), Nat.lt_of_lt_of_le h.hG ht.size, h.b1, h.b2⟩
theorem One.load {S : Nat} {w wr : World} {B G n ld st : Nat} (h : One S w wr B G n ld st) (hS : S ≤ w.heap.size) (hld : ld < 1000000) (a : Int) :
    Calls Try.prog 11 #[.pointer (some ⟨B, 0, none⟩), .int .i64 a] wr fun e w' => ∃ v : Nat, e = .returned (.tuple #[.int .u64 v, .int .i64 (codeN n a)]) ∧ One S w w' B G n (ld + oneN n a) st := by
  obtain ⟨cap, ws, rfl, hs⟩ := h.one
  refine (load_any wr hs h.hG hld a).mono fun e w' ⟨he, h1, ht⟩ => ⟨_, he, ⟨cap, _, rfl, h1⟩, h.bel.trans (ht.below h.b1 h.b2 (Nat.le_trans hS h.bel.size)), Nat.lt_of_lt_of_le h.hG ht.size, h.b1, h.b2⟩
theorem oneN_yes {n : Nat} {a : Int} (h : codeN n a = 0) : oneN n a = 1 := if_pos h
theorem oneN_no {n : Nat} {a : Int} (h : ¬ codeN n a = 0) : oneN n a = 0 := if_neg h

set_option maxRecDepth 100000 in
set_option maxHeartbeats 4000000 in
theorem counts_walk (s : Nat) (hs : s < 256) (pa : Option Addr) (ca : Nat) (za : List Int) (w : World) (ha : IntsP w.heap.size w pa za) (hla : za.length ≤ maxLen) :
    Calls Try.prog 6 #[.int .u8 s, .slice pa za.length ca] w fun e w' => e = .returned (.bool true) ∧ Below w.heap.size w w' := by
  unfold maxLen at hla
  have HA := Lib.hid ha
  clear ha
  by_cases hbig : 200 < za.length
  · have h1 : (200 : Int) < (za.length : Int) := by omega
    go_enter Try.func6, Try.ntmps6
    go_wp2_with fail
    refine (awake_any _).mono ?_
    rintro e w1 ⟨rfl, hb1⟩
    have HB1 := Lib.hid hb1
    clear hb1
    go_wp2
    go_ret
    exact ⟨rfl, HB1.out⟩
  have h1 : (za.length : Int) ≤ 200 := by omega
  have hd1 : decide ((200 : Int) < (za.length : Int)) = false := by simpa using h1
  go_enter Try.func6, Try.ntmps6
  go_wp2_with fail
  refine (new_lit (s % 60 + 1) _ (by omega) _ (by omega) (by omega)).mono ?_
  rintro e w1 ⟨B, G, rfl, hs1, hB1, hG1, hB2, hG2, hb1⟩
  have hone : One w.heap.size w w1 B G (s % 60 + 1) 0 0 := ⟨⟨_, _, by simp, hs1⟩, hb1, hG2, hB1, hG1⟩
  have HO := Lib.hid hone
  clear hs1 hb1 hone hB1 hG1 hB2 hG2 h1
  generalize s % 60 + 1 = n at *
  go_wp2_with fail
  go_loopw [7, 8, 9] (fun lv sv i wr => ∃ k ld st : Nat, k ≤ za.length ∧ i = .int .i64 k ∧ ld ≤ k ∧ st ≤ k ∧ lv = .int .i64 ld ∧ sv = .int .i64 st ∧ One w.heap.size w wr B G n ld st) (fun _ _ i _ => za.length - (intOf i).toNat)
  case atStart => exact ⟨0, 0, 0, Nat.zero_le _, rfl, Nat.le_refl _, Nat.le_refl _, rfl, rfl, HO.out⟩
  case round =>
    clear HO
    obtain ⟨k, ld, st, hk, rfl, hld, hst, rfl, rfl, hone⟩ := hrel
    have HO := Lib.hid hone
    by_cases hlt : k < za.length
    · obtain ⟨b, off, rfl, hbS, hcx⟩ := (HA.out.below hone.bel) k hlt
      clear hone
      have i1 : (0 : Int) ≤ (k : Int) := Int.natCast_nonneg _
      have i2 : (k : Int) < (za.length : Int) := by omega
      generalize za[k]?.getD 0 = a at *
      by_cases hpar : k % 2 = 0
      · have hp1 : (k : Int) % 2 = 0 := by omega
        have hrun := HO.out.store (Nat.le_refl _) (by omega) a 1 1 rfl
        by_cases hz : codeN n a = 0
        · rw [hz, oneN_yes hz] at hrun
          have HR := Lib.hid hrun
          clear hrun HO hz
          go_wp2_with (go_at_call 10; refine HR.out.mono ?_; rintro e w3 ⟨rfl, ht2⟩)
          go_roundw
          case rel => exact ⟨k + 1, ld, st + 1, by omega, by go_num, by omega, by omega, rfl, by go_num, ht2⟩
          case measure => simp [intOf]; omega
        · rw [oneN_no hz] at hrun
          have HR := Lib.hid hrun
          have hzb : (codeN n a == 0) = false := by simpa using hz
          generalize codeN n a = cd at *
          clear hrun HO
          go_wp2_with (go_at_call 10; refine HR.out.mono ?_; rintro e w3 ⟨rfl, ht2⟩)
          go_roundw
          case rel => exact ⟨k + 1, ld, st, by omega, by go_num, by omega, by omega, rfl, rfl, ht2⟩
          case measure => simp [intOf]; omega
      · have hp1 : (k : Int) % 2 = 1 := by omega
        have hrun := HO.out.load (Nat.le_refl _) (by omega) a
        by_cases hz : codeN n a = 0
        · rw [hz, oneN_yes hz] at hrun
          have HR := Lib.hid hrun
          clear hrun HO hz
          go_wp2_with (go_at_call 11; refine HR.out.mono ?_; rintro e w3 ⟨v, rfl, ht2⟩)
          go_roundw
          case rel => exact ⟨k + 1, ld + 1, st, by omega, by go_num, by omega, by omega, by go_num, rfl, ht2⟩
          case measure => simp [intOf]; omega
        · rw [oneN_no hz] at hrun
          have HR := Lib.hid hrun
          have hzb : (codeN n a == 0) = false := by simpa using hz
          generalize codeN n a = cd at *
          clear hrun HO
          go_wp2_with (go_at_call 11; refine HR.out.mono ?_; rintro e w3 ⟨v, rfl, ht2⟩)
          go_roundw
          case rel => exact ⟨k + 1, ld, st, by omega, by go_num, by omega, by omega, rfl, rfl, ht2⟩
          case measure => simp [intOf]; omega
    · obtain ⟨cap, ws, hwl, hsw⟩ := hone.one
      have HS := Lib.hid hsw
      have hGl := hone.hG
      have hBl := hsw.ltB
      have HBW := Lib.hid hone.bel
      clear hone hsw hd1 HO
      go_wp2_with fail
      refine (dump_any wr HS.out).mono ?_
      rintro e w4 ⟨G', cap', rfl, _, _, _, hb4⟩
      have HB4 := Lib.hid (HBW.out.trans (hb4.mono HBW.out.size))
      have HS4 := Lib.hid (HS.out.below hb4 hBl hGl)
      clear hb4 HBW
      go_wp2_with fail
      refine (loads_any _ HS4.out).mono ?_
      rintro e wa ⟨rfl, rfl⟩
      go_wp2_with fail
      refine (stores_any _ HS4.out).mono ?_
      rintro e wa ⟨rfl, rfl⟩
      go_wp2_with fail
      refine (copy_any _ HS4.out).mono ?_
      rintro e w5 ⟨C, H, cap5, rfl, hs5, _, _, _, _, hb5⟩
      have HS5 := Lib.hid hs5
      have HB5 := Lib.hid (HB4.out.trans (hb5.mono HB4.out.size))
      clear hs5 hb5
      go_wp2_with fail
      refine (loads_any _ HS5.out).mono ?_
      rintro e wa ⟨rfl, rfl⟩
      go_wp2_with fail
      refine (awake_any _).mono ?_
      rintro e w10 ⟨rfl, hb10⟩
      have HB10 := Lib.hid hb10
      clear hb10
      go_wp2
      go_ret
      exact ⟨rfl, HB5.out.trans (HB10.out.mono HB5.out.size)⟩
end Go.Proofs.Ytibnbbachoignaa.Arena
