/-
  The law BitsRises answers true, for every size, every list of numbers and every number, wherever the table of math/bits lies as it was laid.
-/
import Derived.Test.YtahhenbphnejiaaDoorBitsO
namespace Go.Proofs.YtahhenbphnejiaaDoor.Bits
open Go.RowKit Go.Shelf

/-- A set in memory, above what lay. -/
structure One (S : Nat) (w wr : World) (B G m cap : Nat) : Prop where
  one : ∃ ws, SetIs wr B G m cap ws
  bel : Below S w wr
  hB : B < wr.heap.size
  hG : G < wr.heap.size
  b1 : S ≤ B
  b2 : S ≤ G
  n1 : B ≠ G
theorem One.put {S : Nat} {w wr : World} {B G m cap : Nat} (h : One S w wr B G m cap) (hS : S ≤ w.heap.size) (z : Int) :
    Calls Tryd.prog 14 #[.pointer (some ⟨B, 0, none⟩), .int .i64 z, .bool true] wr fun e w' => (∃ b : Bool, e = .returned (.bool b)) ∧ One S w w' B G m cap := by
  obtain ⟨ws, hs⟩ := h.one
  refine (put_any B G m cap ws z true wr hs h.n1).mono fun e w' ⟨he, h1, hg, hz⟩ => ⟨⟨_, he⟩, ⟨_, h1⟩, below_grown h.bel hg hS h.b2, ?_, ?_, h.b1, h.b2, h.n1⟩
  · rw [hz]; exact h.hB
  · rw [hz]; exact h.hG

set_option maxRecDepth 100000 in
set_option maxHeartbeats 4000000 in
theorem rises_walk (s : Nat) (hs : s < 65536) (pa : Option Addr) (ca : Nat) (za : List Int) (z : Int) (w : World) (ha : IntsP w.heap.size w pa za) (hla : za.length ≤ maxLen) (hT : TzTab w) (hTl : 1 < w.heap.size) :
    Calls Tryd.prog 6 #[.int .u16 s, .slice pa za.length ca, .int .i64 z] w fun e w' => e = .returned (.bool true) ∧ Below w.heap.size w w' := by
  unfold maxLen at hla
  have HT := Lib.hid hT
  have HA := Lib.hid ha
  clear hT ha
  by_cases hbig : 100 < za.length
  · have h1 : (100 : Int) < (za.length : Int) := by omega
    go_enter Tryd.func6, Tryd.ntmps6
    go_wp2_with fail
    refine (awake_any _ HT.out hTl).mono ?_
    rintro e w1 ⟨rfl, hb1⟩
    have HB1 := Lib.hid hb1
    clear hb1
    go_wp2
    go_ret
    exact ⟨rfl, HB1.out⟩
  have h1 : (za.length : Int) ≤ 100 := by omega
  have hd1 : decide ((100 : Int) < (za.length : Int)) = false := by simpa using h1
  go_enter Tryd.func6, Tryd.ntmps6
  go_wp2_with fail
  refine (new_lit _ (s % 400) (by omega) _ (by omega)).mono ?_
  rintro e w1 ⟨B, G, rfl, hs1, hB1, hG1, hB2, hG2, hne1, hb1⟩
  have hone : One w.heap.size w w1 B G (s % 400) ((s % 400 + 63) / 64) := ⟨⟨_, hs1⟩, hb1, hB2, hG2, hB1, hG1, hne1⟩
  have HO := Lib.hid hone
  clear hs1 hb1 hone hB1 hG1 hB2 hG2 hne1 h1
  go_wp2_with fail
  go_loopw [9] (fun i wr => ∃ k : Nat, k ≤ za.length ∧ i = .int .i64 k ∧ One w.heap.size w wr B G (s % 400) ((s % 400 + 63) / 64)) (fun i _ => za.length - (intOf i).toNat)
  case atStart => exact ⟨0, Nat.zero_le _, rfl, HO.out⟩
  case round =>
    clear HO
    obtain ⟨k, hk, rfl, hone⟩ := hrel
    have HO := Lib.hid hone
    by_cases hlt : k < za.length
    · obtain ⟨b, off, rfl, hbS, hcx⟩ := (HA.out.below hone.bel) k hlt
      clear hone
      have i1 : (0 : Int) ≤ (k : Int) := Int.natCast_nonneg _
      have i2 : (k : Int) < (za.length : Int) := by omega
      go_wp2_with (go_at_call 14; refine (One.put HO.out (Nat.le_refl _) _).mono ?_; rintro e w3 ⟨⟨bb, rfl⟩, ht2⟩)
      go_roundw
      case rel => exact ⟨k + 1, by omega, by go_num, ht2⟩
      case measure => simp [intOf]; omega
    · obtain ⟨ws, hsw⟩ := hone.one
      have HS := Lib.hid hsw
      clear hone hsw hbig hd1
      go_wp2_with fail
      have hbd := HO.out.bel
      refine (list_any B G (s % 400) _ 1000 ws wr HS.out HO.out.hB HO.out.hG (HT.out.below hbd hTl) (Nat.lt_of_lt_of_le hTl hbd.size)).mono ?_
      rintro e w4 ⟨v, rfl, hown, hb4⟩
      rw [List.take_of_length_le (by have := elems_length_le ws (s % 400); omega)] at hown
      obtain ⟨pl, cl, rfl, hints⟩ := ints_of_owns hown
      have hel : (elems ws (s % 400)).length ≤ 400 := by have := elems_length_le ws (s % 400); omega
      have HE := Lib.hid hints
      have HB4 := Lib.hid hb4
      have HS4 := Lib.hid (HS.out.below hb4 HO.out.hB HO.out.hG)
      have HBW := Lib.hid (hbd.trans (hb4.mono hbd.size))
      have HSZ := Lib.hid hbd.size
      have hBl4 : B < w4.heap.size := Nat.lt_of_lt_of_le HO.out.hB hb4.size
      have hGl4 : G < w4.heap.size := Nat.lt_of_lt_of_le HO.out.hG hb4.size
      clear hown hints hb4 hbd hlt hk
      go_wp2_with fail
      have hsm := HS.out.small
      obtain ⟨l, hl⟩ : ∃ l, elems ws (s % 400) = l := ⟨_, rfl⟩
      have HL := Lib.hid hl
      have hso : l.Pairwise (· < ·) := by rw [← hl]; exact elems_sorted _ _
      have hbd9 : ∀ y ∈ l, y < 400 := fun y hy => by
        rw [← hl] at hy
        have := List.mem_range.1 (List.mem_filter.1 hy).1
        omega
      rw [hl] at hel ⊢
      clear hl
      go_loopw [11, 12] (fun at_ i wq => ∃ k : Nat, k ≤ l.length ∧ i = .int .i64 k ∧ at_ = .int .i64 (atK l k) ∧ Below w4.heap.size w4 wq) (fun _ i _ => l.length - (intOf i).toNat)
      case atStart => exact ⟨0, Nat.zero_le _, rfl, rfl, Below.refl _ _⟩
      case round =>
        obtain ⟨k2, hk, rfl, rfl, hb5⟩ := hrel
        have hs5 := HS4.out.below hb5 hBl4 hGl4
        have hT5 := HT.out.below (HBW.out.trans (hb5.mono HBW.out.size)) hTl
        have hz5 := hb5.size
        have hbd5 := hb5
        have HN := Lib.hid (next_any B G (s % 400) _ ws ((atK l k2 : Nat) : Int) _ hs5 hT5 (Nat.lt_of_lt_of_le hBl4 hz5) (Nat.lt_of_lt_of_le hGl4 hz5) (Nat.lt_of_lt_of_le hTl (HBW.out.trans (hb5.mono HBW.out.size)).size))
        by_cases hlt : k2 < l.length
        · obtain ⟨b, off, rfl, hbS, hcx⟩ := HE.out k2 (by rw [zsOf_length, HL.out]; exact hlt)
          rw [HL.out, zsOf_at l k2 hlt] at hcx
          have hle := atK_le hso k2 hlt
          have hy9 := hbd9 _ (List.getElem_mem hlt)
          have hhas : hasB ws l[k2] = true := (mem_elems HS.out.row _).1 (by rw [HL.out]; exact List.getElem_mem hlt)
          have hsucc := atK_succ l k2 hlt
          have hnt : ∀ v ok, NextIs ws (atK l k2) v ok → v = ((l[k2] : Nat) : Int) ∧ ok = true := fun v ok h => by
            have h9 := HL.out
            subst h9
            exact next_told HS.out.row hlt h
          have HNT := Lib.hid hnt
          have HHAS := Lib.hid hhas
          have HSU := Lib.hid hsucc
          clear hnt hhas hsucc hs5 hT5 hso
          generalize l[k2] = y at *
          have hd2 : decide ((y : Int) < ((atK l k2 : Nat) : Int)) = false := by simp; omega
          have i1 : (0 : Int) ≤ (k2 : Int) := Int.natCast_nonneg _
          have i2 : (k2 : Int) < (l.length : Int) := by omega
          go_wp2_with fail
          refine HN.out.mono ?_
          rintro e w6 ⟨v, ok, rfl, hn, hb6⟩
          obtain ⟨rfl, rfl⟩ := HNT.out _ _ hn
          have hcx6 := (hb6.cell (p := ⟨b, off + k2, none⟩) (Nat.lt_of_lt_of_le hbS hz5)).trans ((hb5.cell (p := ⟨b, off + k2, none⟩) hbS).trans hcx)
          have hhx := has_nat B G (s % 400) _ ws y w6 (HS4.out.below (hb5.trans (hb6.mono hz5)) hBl4 hGl4)
          rw [HHAS.out] at hhx
          have HHX := Lib.hid hhx
          have HB6 := Lib.hid (hb5.trans (hb6.mono hz5))
          clear hn hb6 hb5 hcx HN hbd5 hhx
          go_wp2_with fail
          refine HHX.out.mono ?_
          rintro e w7 ⟨rfl, q, rfl⟩
          go_wp2
          go_roundw
          case rel => exact ⟨k2 + 1, by omega, by go_num, by rw [HSU.out]; go_num, ⟨HB6.out.os, HB6.out.tape, HB6.out.output, HB6.out.size, HB6.out.block⟩⟩
          case measure => simp [intOf]; omega
        · obtain rfl : k2 = l.length := by omega
          have hnt : ∀ v ok, NextIs ws (atK l l.length) v ok → ok = false := fun v ok h => by
            have h9 := HL.out
            subst h9
            exact next_end HS.out.row h
          have HNT := Lib.hid hnt
          have HB5 := Lib.hid hb5
          clear hnt hs5 hT5 hso hb5 hbd5
          go_wp2_with fail
          refine HN.out.mono ?_
          rintro e w6 ⟨v, ok, rfl, hn, hb6⟩
          obtain rfl := HNT.out _ _ hn
          have HB6 := Lib.hid (HB5.out.trans (hb6.mono hz5))
          have hcx := count_any B G (s % 400) _ ws w6 (HS4.out.below HB6.out hBl4 hGl4) (Nat.lt_of_lt_of_le hBl4 HB6.out.size) (Nat.lt_of_lt_of_le hGl4 HB6.out.size)
          rw [HL.out] at hcx
          have HCX := Lib.hid hcx
          clear hcx hn hb6 HN HB5 hz5
          go_wp2_with fail
          refine HCX.out.mono ?_
          rintro e w7 ⟨rfl, hb7⟩
          have HB7 := Lib.hid (HB6.out.trans (hb7.mono HB6.out.size))
          have hhx := has_any B G (s % 400) _ ws z w7 (HS4.out.below HB7.out hBl4 hGl4)
          rw [has_told HS.out.row, HL.out] at hhx
          have HHX := Lib.hid hhx
          clear hhx hb7 HCX HB6
          go_wp2_with fail
          refine HHX.out.mono ?_
          rintro e w8 ⟨rfl, q, rfl⟩
          have HB8 : Hid (Below w4.heap.size w4 (w7.drewN q)) := Lib.hid ⟨HB7.out.os, HB7.out.tape, HB7.out.output, HB7.out.size, HB7.out.block⟩
          have hin := in_any pl cl (zsOf (elems ws (s % 400))) z (w7.drewN q) (fun j hj => by
            obtain ⟨b, off, e, h1, h2⟩ := HE.out j hj
            exact ⟨b, off, e, Nat.lt_of_lt_of_le h1 HB8.out.size, (HB8.out.cell (p := ⟨b, off + j, none⟩) h1).trans h2⟩) (by rw [zsOf_length, HL.out]; omega)
          rw [zsOf_length, HL.out] at hin
          have HIN := Lib.hid hin
          clear hin HHX HB7
          go_wp2_with fail
          refine HIN.out.mono ?_
          rintro e w9 ⟨rfl, rfl⟩
          have HBW8 := Lib.hid (HBW.out.trans (HB8.out.mono HBW.out.size))
          have heq : (decide (z ∈ zsOf l) == decide (z ∈ zsOf l)) = true := by simp
          clear HIN HB8
          go_wp2_with fail
          refine (awake_any _ (HT.out.below HBW8.out hTl) (Nat.lt_of_lt_of_le hTl HBW8.out.size)).mono ?_
          rintro e w10 ⟨rfl, hb10⟩
          have HB10 := Lib.hid hb10
          clear hb10
          go_wp2
          go_ret
          exact ⟨rfl, HBW8.out.trans (HB10.out.mono HBW8.out.size)⟩
end Go.Proofs.YtahhenbphnejiaaDoor.Bits
