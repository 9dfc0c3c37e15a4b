/-
  The law BitsPlay answers true, for every size, every row of numbers laid and taken out, and every number, wherever the table of math/bits lies as it was laid.
-/
import Derived.Test.YtahhenbphnejiaaDoorBitsS
import Derived.Test.YtahhenbphnejiaaDoorBitsRises
namespace Go.Proofs.YtahhenbphnejiaaDoor.Bits
open Go.RowKit Go.Shelf

/-- A row of what is laid and taken out, that came in. -/
def PutsP (S : Nat) (W : World) (p : Option Addr) (ps : List (Int × Bool)) : Prop := ∀ j, j < ps.length → ∃ b off, p = some ⟨b, off, none⟩ ∧ b < S ∧ W.cell? ⟨b, off + j * 2, none⟩ = some (.int .i64 (ps[j]?.getD (0, false)).1) ∧ W.cell? ⟨b, off + j * 2 + 1, none⟩ = some (.bool (ps[j]?.getD (0, false)).2)
theorem PutsP.below {S : Nat} {W W' : World} {p : Option Addr} {ps : List (Int × Bool)} (h : PutsP S W p ps) (hb : Below S W W') : PutsP S W' p ps := fun j hj => by
  obtain ⟨b, off, e, hb', h1, h2⟩ := h j hj
  exact ⟨b, off, e, hb', (hb.cell (p := ⟨b, _, none⟩) hb').trans h1, (hb.cell (p := ⟨b, _, none⟩) hb').trans h2⟩

/-- A set and the reference's, above what lay, that have the same. -/
structure Both (S : Nat) (w wr : World) (B G R A m cap : Nat) : Prop where
  both : ∃ ws, SetIs wr B G m cap ws ∧ RefIs wr R A m ws
  bel : Below S w wr
  hB : B < wr.heap.size
  hG : G < wr.heap.size
  hR : R < wr.heap.size
  hA : A < wr.heap.size
  b1 : S ≤ B
  b2 : S ≤ G
  b3 : S ≤ R
  b4 : S ≤ A
  n1 : B ≠ G
  n2 : R ≠ A
  n3 : B ≠ A
  n4 : G ≠ A
  n5 : R ≠ G

theorem next_unique {ws : List Nat} {n : Nat} {v v' : Int} {ok ok' : Bool} (h : NextIs ws n v ok) (h' : NextIs ws n v' ok') : v = v' ∧ ok = ok' := by
  rcases h with ⟨rfl, rfl, h⟩ | ⟨m, rfl, rfl, h1, h2, h3⟩
  · rcases h' with ⟨rfl, rfl, _⟩ | ⟨m, rfl, rfl, h1, h2, h3⟩
    · exact ⟨rfl, rfl⟩
    · rw [h m h1] at h2; cases h2
  · rcases h' with ⟨rfl, rfl, h⟩ | ⟨m', rfl, rfl, h1', h2', h3'⟩
    · rw [h m h1] at h2; cases h2
    · have : m = m' := by
        rcases Nat.lt_trichotomy m m' with h4 | h4 | h4
        · rw [h3' m h1 h4] at h2; cases h2
        · exact h4
        · rw [h3 m' h1' h4] at h2'; cases h2'
      subst this
      exact ⟨rfl, rfl⟩

set_option maxRecDepth 100000 in
set_option maxHeartbeats 4000000 in
theorem play_walk (s : Nat) (hs : s < 65536) (pa : Option Addr) (ca : Nat) (ps : List (Int × Bool)) (z : Int) (w : World) (ha : PutsP w.heap.size w pa ps) (hla : ps.length ≤ maxLen) (hT : TzTab w) (hTl : 1 < w.heap.size) :
    Calls Tryd.prog 3 #[.int .u16 s, .slice pa ps.length ca, .int .i64 z] w fun e w' => e = .returned (.bool true) ∧ Below w.heap.size w w' := by
  unfold maxLen at hla
  have HT := Lib.hid hT
  have HA := Lib.hid ha
  clear hT ha
  by_cases hbig : 200 < ps.length
  · have h1 : (200 : Int) < (ps.length : Int) := by omega
    go_enter Tryd.func3, Tryd.ntmps3
    go_wp2_with fail
    refine (awake_any _ HT.out hTl).mono ?_
    rintro e w1 ⟨rfl, hb1⟩
    have HB1 := Lib.hid hb1
    clear hb1
    go_wp2
    go_ret
    exact ⟨rfl, HB1.out⟩
  have h1 : (ps.length : Int) ≤ 200 := by omega
  have hd1 : decide ((200 : Int) < (ps.length : Int)) = false := by simpa using h1
  obtain ⟨m, hm5, hm⟩ : ∃ m : Nat, m < 500 ∧ (s : Int) % 500 = (m : Int) := ⟨s % 500, by omega, by omega⟩
  go_enter Tryd.func3, Tryd.ntmps3
  go_wp2_with fail
  refine (new_lit _ m rfl _ (by omega)).mono ?_
  rintro e w1 ⟨B, G, rfl, hs1, hB1, hG1, hB2, hG2, hne1, hb1⟩
  have HS1 := Lib.hid hs1
  have HB1 := Lib.hid hb1
  clear hs1 hb1
  go_wp2_with fail
  refine (ref_new _ m rfl _ (by omega)).mono ?_
  rintro e w2 ⟨R, A, rfl, hr2, hR1, hA1, hR2, hA2, hne2, hb2⟩
  have hz := hb2.size
  have hboth : Both w.heap.size w w2 B G R A m ((m + 63) / 64) := ⟨⟨_, HS1.out.below hb2 hB2 hG2, hr2⟩, HB1.out.trans (hb2.mono HB1.out.size), by omega, by omega, hR2, hA2, hB1, hG1, by omega, by omega, hne1, hne2, by omega, by omega, by omega⟩
  have HO := Lib.hid hboth
  clear hr2 hb2 hboth hB1 hG1 hB2 hG2 hne1 h1 HS1 HB1 hR1 hA1 hR2 hA2 hne2 hz
  go_wp2_with fail
  go_loopw [11] (fun i wr => ∃ k : Nat, k ≤ ps.length ∧ i = .int .i64 k ∧ Both w.heap.size w wr B G R A m ((m + 63) / 64)) (fun i _ => ps.length - (intOf i).toNat)
  case atStart => exact ⟨0, Nat.zero_le _, rfl, HO.out⟩
  case round =>
    clear HO
    obtain ⟨k, hk, rfl, hbo⟩ := hrel
    have HO := Lib.hid hbo
    by_cases hlt : k < ps.length
    · obtain ⟨b, off, rfl, hbS, hc1, hc2⟩ := (HA.out.below hbo.bel) k hlt
      obtain ⟨ws, hsw, hrw⟩ := hbo.both
      clear hbo
      have i1 : (0 : Int) ≤ (k : Int) := Int.natCast_nonneg _
      have i2 : (k : Int) < (ps.length : Int) := by omega
      generalize ps[k]?.getD (0, false) = pr at *
      obtain ⟨x, bb⟩ := pr
      have hgb : b ≠ G := by have := HO.out.b2; omega
      have hab : b ≠ A := by have := HO.out.b4; omega
      have hbl : b < wr.heap.size := Nat.lt_of_lt_of_le hbS HO.out.bel.size
      have HS := Lib.hid hsw
      have HR := Lib.hid hrw
      clear hsw hrw
      go_wp2_with fail
      go_region_held3 (fun w' => w'.cell? ⟨b, off + k * 2, none⟩ = some (.int .i64 x) ∧ w'.cell? ⟨b, off + k * 2 + 1, none⟩ = some (.bool bb)) (first | exact ⟨hc1, hc2⟩ | exact S3 | exact S4)
        (first
          | (go_at_call 14; refine (put_any B G m _ ws x bb wr.drew HS.out.drew HO.out.n1).mono ?_; rintro e w3 ⟨rfl, hs3, hg3, hz3⟩
             have S3 : w3.cell? ⟨b, off + k * 2, none⟩ = some (.int .i64 x) ∧ w3.cell? ⟨b, off + k * 2 + 1, none⟩ = some (.bool bb) := ⟨(hg3.cell (a := ⟨b, _, none⟩) hc1 (fun e => hgb (by injection e))), (hg3.cell (a := ⟨b, _, none⟩) hc2 (fun e => hgb (by injection e)))⟩
             have HS3 := Lib.hid hs3
             have HR3 := Lib.hid ((HR.out.drewN 1).grown hg3 HO.out.hR HO.out.hA HO.out.n5 (Ne.symm HO.out.n4))
             have HZ3 : Hid (w3.heap.size = wr.heap.size) := Lib.hid hz3
             have HG3 := Lib.hid hg3
             clear hs3 hg3 hz3)
          | (go_at_call 15; refine (ref_put R A m ws x bb w3 HR3.out HO.out.n2 HS.out.row).mono ?_; rintro e w4 ⟨rfl, hr4, hg4, hz4⟩
             have S4 : w4.cell? ⟨b, off + k * 2, none⟩ = some (.int .i64 x) ∧ w4.cell? ⟨b, off + k * 2 + 1, none⟩ = some (.bool bb) := ⟨(hg4.cell (a := ⟨b, _, none⟩) S3.1 (fun e => hab (by injection e))), (hg4.cell (a := ⟨b, _, none⟩) S3.2 (fun e => hab (by injection e)))⟩
             have HR4 := Lib.hid hr4
             have HS4 := Lib.hid (HS3.out.grown hg4 (by rw [HZ3.out]; exact HO.out.hB) (by rw [HZ3.out]; exact HO.out.hG) HO.out.n3 HO.out.n4)
             have HZ4 : Hid (w4.heap.size = wr.heap.size) := Lib.hid (hz4.trans HZ3.out)
             have HG4 := Lib.hid hg4
             clear hr4 hg4 hz4)
          | (go_at_call 16; refine (has_any B G m _ _ x w4 HS4.out).mono ?_; rintro e w5 ⟨rfl, q5, rfl⟩)
          | (go_at_call 17; refine (ref_has R A m _ x _ (HR4.out.drewN q5)).mono ?_; rintro e w6 ⟨rfl, rfl⟩))
      have hbo2 : Both w.heap.size w (w4.drewN q5) B G R A m ((m + 63) / 64) := by
        have hbw := below_grown (below_grown (⟨HO.out.bel.os, HO.out.bel.tape, HO.out.bel.output, HO.out.bel.size, HO.out.bel.block⟩ : Below w.heap.size w wr.drew) HG3.out (Nat.le_refl _) HO.out.b2) HG4.out (Nat.le_refl _) HO.out.b4
        have hz := HZ4.out
        exact ⟨⟨_, HS4.out.drewN q5, HR4.out.drewN q5⟩, ⟨hbw.os, hbw.tape, hbw.output, hbw.size, hbw.block⟩, by show B < w4.heap.size; rw [hz]; exact HO.out.hB, by show G < w4.heap.size; rw [hz]; exact HO.out.hG, by show R < w4.heap.size; rw [hz]; exact HO.out.hR, by show A < w4.heap.size; rw [hz]; exact HO.out.hA,
          HO.out.b1, HO.out.b2, HO.out.b3, HO.out.b4, HO.out.n1, HO.out.n2, HO.out.n3, HO.out.n4, HO.out.n5⟩
      have HBO := Lib.hid hbo2
      clear hbo2 S3 S4 hc1 hc2
      go_wp2
      go_roundw
      case rel => exact ⟨k + 1, by omega, by go_num, HBO.out⟩
      case measure => simp [intOf]; omega
    · obtain ⟨ws, hsw, hrw⟩ := hbo.both
      have HS := Lib.hid hsw
      have HR := Lib.hid hrw
      have HB := Lib.hid hbo.bel
      clear hbo hsw hrw hbig hd1
      go_wp2_with fail
      refine (ref_all R A m ws wr HR.out HO.out.hR HO.out.hA (by omega)).mono ?_
      rintro e w2 ⟨v, rfl, hown, hb2⟩
      obtain ⟨pl, cl, rfl, hints⟩ := ints_of_owns hown
      have hel : (elems ws m).length ≤ 500 := by have := elems_length_le ws m; omega
      have HI2 := Lib.hid hints
      have BW2 : Hid (Below w.heap.size w w2) := Lib.hid (HB.out.trans (hb2.mono HB.out.size))
      have SB2 := Lib.hid (HS.out.below hb2 HO.out.hB HO.out.hG)
      have SR2 := Lib.hid (HR.out.below hb2 HO.out.hR HO.out.hA)
      have hz2 : wr.heap.size ≤ w2.heap.size := hb2.size
      have LT2 : Hid (B < w2.heap.size ∧ G < w2.heap.size ∧ R < w2.heap.size ∧ A < w2.heap.size) := Lib.hid ⟨by have := HO.out.hB; omega, by have := HO.out.hG; omega, by have := HO.out.hR; omega, by have := HO.out.hA; omega⟩
      obtain ⟨n, hn⟩ : ∃ n : Nat, (elems ws m).length = n := ⟨_, rfl⟩
      rw [hn] at hel ⊢
      have HN := Lib.hid hn
      clear hown hints hb2 hz2 HS HR HB HO hk hlt hn
      go_wp2_with fail
      refine (next_any B G m _ ws z w2 SB2.out (HT.out.below BW2.out hTl) LT2.out.1 LT2.out.2.1 (Nat.lt_of_lt_of_le hTl BW2.out.size)).mono ?_
      rintro e w3 ⟨x, ok, rfl, hnx, hb3⟩
      have HNX := Lib.hid hnx
      have HB3 := Lib.hid hb3
      have BW3 : Hid (Below w.heap.size w w3) := Lib.hid (BW2.out.trans (hb3.mono BW2.out.size))
      clear hnx hb3 BW2
      go_wp2_with fail
      refine (ref_next R A m ws z w3 (SR2.out.below HB3.out LT2.out.2.2.1 LT2.out.2.2.2) SB2.out.row (by omega)).mono ?_
      rintro e w4 ⟨y, is, rfl, hny, rfl⟩
      obtain ⟨rfl, rfl⟩ := next_unique HNX.out hny
      clear hny
      go_wp2_with fail
      refine (size_any B m _ (SB2.out.below HB3.out LT2.out.1 LT2.out.2.1).cs).mono ?_
      rintro e w4 ⟨rfl, rfl⟩
      go_wp2_with fail
      have c1 := count_any B G m _ ws w4 (SB2.out.below HB3.out LT2.out.1 LT2.out.2.1) (Nat.lt_of_lt_of_le LT2.out.1 HB3.out.size) (Nat.lt_of_lt_of_le LT2.out.2.1 HB3.out.size)
      rw [HN.out] at c1
      refine c1.mono ?_
      rintro e w5 ⟨rfl, hb5⟩
      have HB5 : Hid (Below w2.heap.size w2 w5) := Lib.hid (HB3.out.trans (hb5.mono HB3.out.size))
      have BW5 : Hid (Below w.heap.size w w5) := Lib.hid (BW3.out.trans (hb5.mono BW3.out.size))
      clear hb5 c1 BW3
      go_wp2_with fail
      refine (list_any B G m _ 1000 ws w5 (SB2.out.below HB5.out LT2.out.1 LT2.out.2.1) (Nat.lt_of_lt_of_le LT2.out.1 HB5.out.size) (Nat.lt_of_lt_of_le LT2.out.2.1 HB5.out.size) (HT.out.below BW5.out hTl) (Nat.lt_of_lt_of_le hTl BW5.out.size)).mono ?_
      rintro e w6 ⟨v, rfl, hown, hb6⟩
      rw [List.take_of_length_le (by have := HN.out; omega)] at hown
      obtain ⟨pk, ck, rfl, hints⟩ := ints_of_owns hown
      have HB6 : Hid (Below w2.heap.size w2 w6) := Lib.hid (HB5.out.trans (hb6.mono HB5.out.size))
      have BW6 : Hid (Below w.heap.size w w6) := Lib.hid (BW5.out.trans (hb6.mono BW5.out.size))
      have hi2 : IntsP w6.heap.size w6 pl (zsOf (elems ws m)) := fun j hj => by
        obtain ⟨b, off, e, h1, h2⟩ := HI2.out j hj
        exact ⟨b, off, e, Nat.lt_of_lt_of_le h1 HB6.out.size, (HB6.out.cell (p := ⟨b, off + j, none⟩) h1).trans h2⟩
      have hsm := ref_same pk pl ck cl (zsOf (elems ws m)) w6 hints hi2 (by rw [zsOf_length]; have := HN.out; omega)
      rw [zsOf_length, HN.out] at hsm
      rw [HN.out]
      have HSM := Lib.hid hsm
      clear hown hints hb6 HI2 hi2 hsm HB5 BW5
      go_wp2_with fail
      refine HSM.out.mono ?_
      rintro e w7 ⟨rfl, q7, rfl⟩
      have hxx : (x == x) = true := by simp
      have hoo : (ok == ok) = true := by simp
      clear HSM
      go_wp2_with fail
      refine (has_any B G m _ ws z _ ((SB2.out.below HB6.out LT2.out.1 LT2.out.2.1).drewN q7)).mono ?_
      rintro e w8 ⟨rfl, q8, rfl⟩
      go_wp2_with fail
      refine (ref_has R A m ws z _ ((SR2.out.below HB6.out LT2.out.2.2.1 LT2.out.2.2.2).drewN (q7 + q8))).mono ?_
      rintro e w9 ⟨rfl, rfl⟩
      have hbb : ((mayB z m && hasB ws z.toNat) == (mayB z m && hasB ws z.toNat)) = true := by simp
      have BW9 : Hid (Below w.heap.size w (w6.drewN (q7 + q8))) := Lib.hid ⟨BW6.out.os, BW6.out.tape, BW6.out.output, BW6.out.size, BW6.out.block⟩
      clear BW6 HB6
      go_wp2_with fail
      refine (awake_any _ (HT.out.below BW9.out hTl) (Nat.lt_of_lt_of_le hTl BW9.out.size)).mono ?_
      rintro e w10 ⟨rfl, hb10⟩
      have HB10 := Lib.hid hb10
      clear hb10
      go_wp2
      go_ret
      exact ⟨rfl, BW9.out.trans (HB10.out.mono BW9.out.size)⟩
end Go.Proofs.YtahhenbphnejiaaDoor.Bits
