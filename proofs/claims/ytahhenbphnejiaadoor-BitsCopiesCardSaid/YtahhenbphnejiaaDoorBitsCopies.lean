/-
  The law BitsCopies answers true, for every size, every list of numbers and every number of rounds, wherever the table of math/bits lies as it was laid.
-/
import Derived.Test.YtahhenbphnejiaaDoorBitsQ
import Derived.Test.YtahhenbphnejiaaDoorBitsRises
namespace Go.Proofs.YtahhenbphnejiaaDoor.Bits
open Go.RowKit Go.Shelf

theorem elems_fill (k : Nat) (x : Bool) : (elems (fillW k x ((k + 63) / 64)) k).length = if x = true then k else 0 := by
  unfold elems
  cases x with
  | true =>
    have : (List.range k).filter (hasB (fillW k true ((k + 63) / 64))) = List.range k := List.filter_eq_self.2 fun n hn => by rw [has_fillW]; simpa using hn
    rw [this]; simp
  | false =>
    have : (List.range k).filter (hasB (fillW k false ((k + 63) / 64))) = [] := List.filter_eq_nil_iff.2 fun n hn => by rw [has_fillW]; simp
    rw [this]; simp
theorem full_iff {k : Nat} {ws : List Nat} (h : SetW k ws) : fillW k true ((k + 63) / 64) = ws ↔ (elems ws k).length = k := by
  constructor
  · intro e
    rw [← e, elems_fill]; rfl
  · intro e
    refine ext_has (setW_fillW k true) h fun j hj => ?_
    have h2 := (List.length_filter_eq_length_iff (p := hasB ws) (l := List.range k)).1 (by rw [List.length_range]; exact e) j (List.mem_range.2 hj)
    rw [has_fillW, h2]
    simp [hj]
theorem none_iff {k : Nat} {ws : List Nat} (h : SetW k ws) : fillW k false ((k + 63) / 64) = ws ↔ (elems ws k).length = 0 := by
  constructor
  · intro e
    rw [← e, elems_fill]; rfl
  · intro e
    refine ext_has (setW_fillW k false) h fun j hj => ?_
    have h2 := List.filter_eq_nil_iff.1 (List.length_eq_zero_iff.1 e) j (List.mem_range.2 hj)
    rw [has_fillW]
    cases hx : hasB ws j with
    | false => rfl
    | true => exact absurd hx h2

theorem fil_iff {m n : Nat} {ws : List Nat} (hrow : SetW m ws) (hn : (elems ws m).length = n) (x sb : Bool) (h : sb = true ↔ n = if x = true then m else 0) : sb = true ↔ m = m ∧ fillW m x ((m + 63) / 64) = ws := by
  rw [h, ← hn]
  cases x with
  | true => exact ⟨fun e => ⟨rfl, (full_iff hrow).2 e⟩, fun e => (full_iff hrow).1 e.2⟩
  | false => exact ⟨fun e => ⟨rfl, (none_iff hrow).2 e⟩, fun e => (none_iff hrow).1 e.2⟩

set_option maxRecDepth 100000 in
set_option maxHeartbeats 4000000 in
theorem copies_walk (s : Nat) (hs : s < 65536) (pa : Option Addr) (ca : Nat) (za : List Int) (st : Nat) (hst : st < 256) (w : World) (ha : IntsP w.heap.size w pa za) (hla : za.length ≤ maxLen) (hT : TzTab w) (hTl : 1 < w.heap.size) :
    Calls Tryd.prog 4 #[.int .u16 s, .slice pa za.length ca, .int .u8 st] w fun e w' => e = .returned (.bool true) ∧ Below w.heap.size w w' := by
  unfold maxLen at hla
  have HT := Lib.hid hT
  have HA := Lib.hid ha
  clear hT ha
  by_cases hbig : 100 < za.length
  · have h1 : (100 : Int) < (za.length : Int) := by omega
    go_enter Tryd.func4, Tryd.ntmps4
    go_wp2_with fail
    refine (awake_any _ HT.out hTl).mono ?_
    rintro e w1 ⟨rfl, hb1⟩
    have HB1 := Lib.hid hb1
    clear hb1
    go_wp2
    go_ret
    exact ⟨rfl, HB1.out⟩
  have h1 : (za.length : Int) ≤ 100 := by omega
  have hd1 : decide ((100 : Int) < (za.length : Int)) = false := by simpa using h1
  obtain ⟨m, hm3, hm⟩ : ∃ m : Nat, m < 300 ∧ (s : Int) % 300 = (m : Int) := ⟨s % 300, by omega, by omega⟩
  go_enter Tryd.func4, Tryd.ntmps4
  go_wp2_with fail
  refine (new_lit _ m rfl _ (by omega)).mono ?_
  rintro e w1 ⟨B, G, rfl, hs1, hB1, hG1, hB2, hG2, hne1, hb1⟩
  have hone : One w.heap.size w w1 B G (m) ((m + 63) / 64) := ⟨⟨_, hs1⟩, hb1, hB2, hG2, hB1, hG1, hne1⟩
  have HO := Lib.hid hone
  clear hs1 hb1 hone hB1 hG1 hB2 hG2 hne1 h1
  go_wp2_with fail
  go_loopw [10] (fun i wr => ∃ k : Nat, k ≤ za.length ∧ i = .int .i64 k ∧ One w.heap.size w wr B G (m) ((m + 63) / 64)) (fun i _ => za.length - (intOf i).toNat)
  case atStart => exact ⟨0, Nat.zero_le _, rfl, HO.out⟩
  case round =>
    clear HO
    obtain ⟨k, hk, rfl, hone⟩ := hrel
    have HO := Lib.hid hone
    by_cases hlt : k < za.length
    · obtain ⟨b, off, rfl, hbS, hcx⟩ := (HA.out.below hone.bel) k hlt
      clear hone
      have i1 : (0 : Int) ≤ (k : Int) := Int.natCast_nonneg _
      have i2 : (k : Int) < (za.length : Int) := by omega
      go_wp2_with (go_at_call 14; refine (One.put HO.out (Nat.le_refl _) _).mono ?_; rintro e w3 ⟨⟨bb, rfl⟩, ht2⟩)
      go_roundw
      case rel => exact ⟨k + 1, by omega, by go_num, ht2⟩
      case measure => simp [intOf]; omega
    · obtain ⟨ws, hsw⟩ := hone.one
      have HS := Lib.hid hsw
      clear hone hsw hbig hd1
      go_wp2_with fail
      refine (copy_any B G m _ ws wr HS.out HO.out.hB).mono ?_
      rintro e w2 ⟨C, H, capc, rfl, hsc, hC1, hH1, hC2, hH2, hCH, hb2⟩
      have hbw := HO.out.bel
      have h1B := HO.out.hB
      have h1G := HO.out.hG
      have hz := hb2.size
      have n3 : C ≠ G := by omega
      have n4 : H ≠ G := by omega
      have BW : Hid (Below w.heap.size w w2) := Lib.hid (hbw.trans (hb2.mono hbw.size))
      have SB : Hid (SetIs w2 B G m ((m + 63) / 64) ws) := Lib.hid (HS.out.below hb2 h1B h1G)
      have SC : Hid (SetIs w2 C H m capc ws) := Lib.hid hsc
      have LT : Hid (B < w2.heap.size ∧ G < w2.heap.size ∧ C < w2.heap.size ∧ H < w2.heap.size ∧ w.heap.size ≤ G ∧ B ≠ G) := Lib.hid ⟨by omega, by omega, hC2, hH2, HO.out.b2, HO.out.n1⟩
      clear hsc hb2 hbw h1B h1G hC1 hH1 hC2 hH2 hz hk hlt HS HO
      -- the same
      go_wp2_with fail
      refine (same_known B G C H m m _ _ ws ws true _ SB.out SC.out ⟨fun _ => ⟨rfl, rfl⟩, fun _ => rfl⟩).mono ?_
      rintro e w3 ⟨rfl, q1, rfl⟩
      -- its size
      go_wp2_with fail
      refine (size_any C m _ (SC.out.drewN q1).cs).mono ?_
      rintro e w3 ⟨rfl, rfl⟩
      -- how many
      go_wp2_with fail
      refine (count_any C H m _ ws _ (SC.out.drewN q1) LT.out.2.2.1 LT.out.2.2.2.1).mono ?_
      rintro e w3 ⟨rfl, hb3⟩
      have BW3 : Hid (Below w.heap.size w w3) := Lib.hid (BW.out.trans (Below.mono (⟨hb3.os, hb3.tape, hb3.output, hb3.size, hb3.block⟩ : Below w2.heap.size w2 w3) BW.out.size))
      have SB3 := Lib.hid ((SB.out.drewN q1).below hb3 LT.out.1 LT.out.2.1)
      have SC3 := Lib.hid ((SC.out.drewN q1).below hb3 LT.out.2.2.1 LT.out.2.2.2.1)
      have hz3 : w2.heap.size ≤ w3.heap.size := hb3.size
      have LT3 : Hid (B < w3.heap.size ∧ G < w3.heap.size ∧ C < w3.heap.size ∧ H < w3.heap.size ∧ w.heap.size ≤ G ∧ B ≠ G) := Lib.hid ⟨by have := LT.out.1; omega, by have := LT.out.2.1; omega, by have := LT.out.2.2.1; omega, by have := LT.out.2.2.2.1; omega, LT.out.2.2.2.2⟩
      clear hb3 hz3 BW SB SC LT
      obtain ⟨n, hn⟩ : ∃ n : Nat, (elems ws m).length = n := ⟨_, rfl⟩
      have hnm : n ≤ m := by rw [← hn]; exact elems_length_le ws m
      -- the first of them
      go_wp2_with fail
      refine (list_any C H m _ st ws _ SC3.out LT3.out.2.2.1 LT3.out.2.2.2.1 (HT.out.below BW3.out hTl) (Nat.lt_of_lt_of_le hTl BW3.out.size)).mono ?_
      rintro e w4 ⟨v, rfl, hown, hb4⟩
      have hlt4 : ((elems ws m).take st).length = min st n := by rw [List.length_take, hn]
      rw [hlt4] at hown
      obtain ⟨pl, cl, rfl⟩ : ∃ a c, v = .slice a (min st n) c := by
        rcases hown.2 with ⟨rfl, h0⟩ | ⟨g, c, _, rfl, _⟩
        · exact ⟨none, 0, by rw [h0]⟩
        · exact ⟨_, _, rfl⟩
      obtain ⟨t, ht⟩ : ∃ t : Nat, min st n = t := ⟨_, rfl⟩
      rw [ht]
      have BW4 : Hid (Below w.heap.size w w4) := Lib.hid (BW3.out.trans (hb4.mono BW3.out.size))
      have SB4 := Lib.hid (SB3.out.below hb4 LT3.out.1 LT3.out.2.1)
      have SC4 := Lib.hid (SC3.out.below hb4 LT3.out.2.2.1 LT3.out.2.2.2.1)
      have hz4 : w3.heap.size ≤ w4.heap.size := hb4.size
      have LT4 : Hid (B < w4.heap.size ∧ G < w4.heap.size ∧ C < w4.heap.size ∧ H < w4.heap.size ∧ w.heap.size ≤ G ∧ B ≠ G) := Lib.hid ⟨by have := LT3.out.1; omega, by have := LT3.out.2.1; omega, by have := LT3.out.2.2.1; omega, by have := LT3.out.2.2.2.1; omega, LT3.out.2.2.2.2⟩
      have HN := Lib.hid hn
      clear hown hlt4 hb4 hz4 BW3 SB3 SC3 LT3 hn
      have hmin : (if (st : Int) < (n : Int) then (st : Int) else (n : Int)) = (t : Int) := by split <;> omega
      have hmin2 : (if (n : Int) < (st : Int) then (n : Int) else (st : Int)) = (t : Int) := by split <;> omega
      go_wp2_with fail
      clear hmin hmin2 ht
      -- all
      refine (fill_any B G m _ ws true _ SB4.out LT4.out.2.2.2.2.2 LT4.out.1).mono ?_
      rintro e w5 ⟨rfl, hs5, hg5, hz5⟩
      have BW5 : Hid (Below w.heap.size w w5) := Lib.hid (below_grown BW4.out hg5 (Nat.le_refl _) LT4.out.2.2.2.2.1)
      have SB5 := Lib.hid hs5
      have SC5 := Lib.hid (SC4.out.grown hg5 LT4.out.2.2.1 LT4.out.2.2.2.1 n3 n4)
      have LT5 : Hid (B < w5.heap.size ∧ G < w5.heap.size ∧ C < w5.heap.size ∧ H < w5.heap.size ∧ w.heap.size ≤ G ∧ B ≠ G) := Lib.hid (by rw [hz5]; exact LT4.out)
      clear hs5 hg5 hz5 BW4 SB4 SC4 LT4
      go_wp2_with fail
      have c1 := count_any B G m _ _ w5 SB5.out LT5.out.1 LT5.out.2.1
      rw [elems_fill, if_pos rfl] at c1
      refine c1.mono ?_
      rintro e w6 ⟨rfl, hb6⟩
      clear c1
      have BW6 : Hid (Below w.heap.size w w6) := Lib.hid (BW5.out.trans (hb6.mono BW5.out.size))
      have SB6 := Lib.hid (SB5.out.below hb6 LT5.out.1 LT5.out.2.1)
      have SC6 := Lib.hid (SC5.out.below hb6 LT5.out.2.2.1 LT5.out.2.2.2.1)
      have hz6 : w5.heap.size ≤ w6.heap.size := hb6.size
      have LT6 : Hid (B < w6.heap.size ∧ G < w6.heap.size ∧ C < w6.heap.size ∧ H < w6.heap.size ∧ w.heap.size ≤ G ∧ B ≠ G) := Lib.hid ⟨by have := LT5.out.1; omega, by have := LT5.out.2.1; omega, by have := LT5.out.2.2.1; omega, by have := LT5.out.2.2.2.1; omega, LT5.out.2.2.2.2⟩
      clear hb6 hz6 BW5 SB5 SC5 LT5
      go_wp2_with fail
      have c1 := count_any C H m _ _ w6 SC6.out LT6.out.2.2.1 LT6.out.2.2.2.1
      rw [HN.out] at c1
      refine c1.mono ?_
      rintro e w7 ⟨rfl, hb7⟩
      clear c1
      have BW7 : Hid (Below w.heap.size w w7) := Lib.hid (BW6.out.trans (hb7.mono BW6.out.size))
      have SB7 := Lib.hid (SB6.out.below hb7 LT6.out.1 LT6.out.2.1)
      have SC7 := Lib.hid (SC6.out.below hb7 LT6.out.2.2.1 LT6.out.2.2.2.1)
      have hz7 : w6.heap.size ≤ w7.heap.size := hb7.size
      have LT7 : Hid (B < w7.heap.size ∧ G < w7.heap.size ∧ C < w7.heap.size ∧ H < w7.heap.size ∧ w.heap.size ≤ G ∧ B ≠ G) := Lib.hid ⟨by have := LT6.out.1; omega, by have := LT6.out.2.1; omega, by have := LT6.out.2.2.1; omega, by have := LT6.out.2.2.2.1; omega, LT6.out.2.2.2.2⟩
      clear hb7 hz7 BW6 SB6 SC6 LT6
      obtain ⟨sb, hsb⟩ : ∃ sb : Bool, ((n : Int) == (m : Int)) = sb := ⟨_, rfl⟩
      have hsi : sb = true ↔ n = m := by rw [← hsb, beq_iff_eq]; constructor <;> intro h <;> omega
      have HSI := Lib.hid hsi
      clear hsi
      go_wp2_with fail
      refine (same_known B G C H m m _ _ _ ws sb _ SB7.out SC7.out (fil_iff SC7.out.row HN.out true sb (by rw [if_pos rfl]; exact HSI.out))).mono ?_
      rintro e w8 ⟨rfl, q2, rfl⟩
      have hss : (sb == sb) = true := by simp
      clear HSI
      go_wp2_with fail
      -- none
      clear hss hsb
      refine (fill_any B G m _ _ false _ (SB7.out.drewN q2) LT7.out.2.2.2.2.2 LT7.out.1).mono ?_
      rintro e w9 ⟨rfl, hs9, hg9, hz9⟩
      have BW9 : Hid (Below w.heap.size w w9) := Lib.hid (below_grown (⟨BW7.out.os, BW7.out.tape, BW7.out.output, BW7.out.size, BW7.out.block⟩ : Below w.heap.size w (w7.drewN q2)) hg9 (Nat.le_refl _) LT7.out.2.2.2.2.1)
      have SB9 := Lib.hid hs9
      have SC9 := Lib.hid ((SC7.out.drewN q2).grown hg9 LT7.out.2.2.1 LT7.out.2.2.2.1 n3 n4)
      have LT9 : Hid (B < w9.heap.size ∧ G < w9.heap.size ∧ C < w9.heap.size ∧ H < w9.heap.size ∧ w.heap.size ≤ G ∧ B ≠ G) := Lib.hid (by rw [hz9]; exact LT7.out)
      clear hs9 hg9 hz9 BW7 SB7 SC7 LT7
      go_wp2_with fail
      have c1 := count_any B G m _ _ w9 SB9.out LT9.out.1 LT9.out.2.1
      rw [elems_fill, if_neg (by decide)] at c1
      refine c1.mono ?_
      rintro e w10 ⟨rfl, hb10⟩
      clear c1
      have BW10 : Hid (Below w.heap.size w w10) := Lib.hid (BW9.out.trans (hb10.mono BW9.out.size))
      have SB10 := Lib.hid (SB9.out.below hb10 LT9.out.1 LT9.out.2.1)
      have SC10 := Lib.hid (SC9.out.below hb10 LT9.out.2.2.1 LT9.out.2.2.2.1)
      have hz10 : w9.heap.size ≤ w10.heap.size := hb10.size
      have LT10 : Hid (B < w10.heap.size ∧ G < w10.heap.size ∧ C < w10.heap.size ∧ H < w10.heap.size ∧ w.heap.size ≤ G ∧ B ≠ G) := Lib.hid ⟨by have := LT9.out.1; omega, by have := LT9.out.2.1; omega, by have := LT9.out.2.2.1; omega, by have := LT9.out.2.2.2.1; omega, LT9.out.2.2.2.2⟩
      clear hb10 hz10 BW9 SB9 SC9 LT9
      go_wp2_with fail
      have c1 := count_any C H m _ _ w10 SC10.out LT10.out.2.2.1 LT10.out.2.2.2.1
      rw [HN.out] at c1
      refine c1.mono ?_
      rintro e w11 ⟨rfl, hb11⟩
      clear c1
      have BW11 : Hid (Below w.heap.size w w11) := Lib.hid (BW10.out.trans (hb11.mono BW10.out.size))
      have SB11 := Lib.hid (SB10.out.below hb11 LT10.out.1 LT10.out.2.1)
      have SC11 := Lib.hid (SC10.out.below hb11 LT10.out.2.2.1 LT10.out.2.2.2.1)
      clear hb11 BW10 SB10 SC10 LT10
      obtain ⟨sc, hsc⟩ : ∃ sc : Bool, ((n : Int) == 0) = sc := ⟨_, rfl⟩
      have hsi : sc = true ↔ n = 0 := by rw [← hsc, beq_iff_eq]; constructor <;> intro h <;> omega
      have HSI := Lib.hid hsi
      clear hsi
      go_wp2_with fail
      refine (same_known B G C H m m _ _ _ ws sc _ SB11.out SC11.out (fil_iff SC11.out.row HN.out false sc (by rw [if_neg (by decide)]; exact HSI.out))).mono ?_
      rintro e w12 ⟨rfl, q3, rfl⟩
      have hss : (sc == sc) = true := by simp
      have BW12 : Hid (Below w.heap.size w (w11.drewN q3)) := Lib.hid ⟨BW11.out.os, BW11.out.tape, BW11.out.output, BW11.out.size, BW11.out.block⟩
      clear HSI SB11 SC11 BW11
      go_wp2_with fail
      refine (awake_any _ (HT.out.below BW12.out hTl) (Nat.lt_of_lt_of_le hTl BW12.out.size)).mono ?_
      rintro e w13 ⟨rfl, hb13⟩
      have HB13 := Lib.hid hb13
      clear hb13
      go_wp2
      go_ret
      exact ⟨rfl, BW12.out.trans (HB13.out.mono BW12.out.size)⟩
end Go.Proofs.YtahhenbphnejiaaDoor.Bits
