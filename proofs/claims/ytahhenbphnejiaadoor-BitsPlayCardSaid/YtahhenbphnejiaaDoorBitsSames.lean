/-
  The law BitsSames answers true, for every two sizes and every two lists of numbers, wherever the table of math/bits lies as it was laid.
-/
import Derived.Test.YtahhenbphnejiaaDoorBitsG
namespace Go.Proofs.YtahhenbphnejiaaDoor.Bits
open Go.RowKit

theorem SetIs.below {N : Nat} {w w' : World} {B G size cap : Nat} {ws : List Nat} (h : SetIs w B G size cap ws) (hb : Below N w w') (hB : B < N) (hG : G < N) : SetIs w' B G size cap ws :=
  ⟨h.small, h.row, h.capn, (hb.cell (p := ⟨B, 0, none⟩) hB).trans h.cs, (hb.cell (p := ⟨B, 1, none⟩) hB).trans h.cw, fun j hj => (hb.cell (p := ⟨G, j, none⟩) hG).trans (h.at_ j hj), fun j hj => (hb.frozen (p := ⟨G, j, none⟩) hG).trans (h.fz j hj)⟩
theorem SetIs.grown {w w' : World} {B G size cap X : Nat} {ws : List Nat} (h : SetIs w B G size cap ws) (hg : w.grownBy w' (some X)) (hB : B < w.heap.size) (hG : G < w.heap.size) (hBX : B ≠ X) (hGX : G ≠ X) : SetIs w' B G size cap ws :=
  ⟨h.small, h.row, h.capn, (World.cell?_of_block (a := ⟨B, 0, none⟩) (hg.block B hB (fun e => hBX (by injection e)))).trans h.cs, (World.cell?_of_block (a := ⟨B, 1, none⟩) (hg.block B hB (fun e => hBX (by injection e)))).trans h.cw,
   fun j hj => (World.cell?_of_block (a := ⟨G, j, none⟩) (hg.block G hG (fun e => hGX (by injection e)))).trans (h.at_ j hj), fun j hj => (World.frozen?_of_block (a := ⟨G, j, none⟩) (hg.block G hG (fun e => hGX (by injection e)))).trans (h.fz j hj)⟩

/-- A list of numbers that came in. -/
def IntsP (S : Nat) (W : World) (p : Option Addr) (zs : List Int) : Prop := ∀ j, j < zs.length → ∃ b off, p = some ⟨b, off, none⟩ ∧ b < S ∧ W.cell? ⟨b, off + j, none⟩ = some (.int .i64 (zs[j]?.getD 0))
theorem IntsP.below {S : Nat} {W W' : World} {p : Option Addr} {zs : List Int} (h : IntsP S W p zs) (hb : Below S W W') : IntsP S W' p zs := fun j hj => by
  obtain ⟨b, off, e, hb', hc⟩ := h j hj
  exact ⟨b, off, e, hb', (hb.cell (p := ⟨b, off + j, none⟩) hb').trans hc⟩

theorem bcell' {W w1 : World} (hb : Below W.heap.size W w1) : ∀ b o, b < W.heap.size → w1.cell? ⟨b, o, none⟩ = W.cell? ⟨b, o, none⟩ := fun b o h => hb.cell (p := ⟨b, o, none⟩) h

/-- Two sets in memory, above what lay. -/
structure Two (S : Nat) (w wr : World) (B G C H m n capS capT : Nat) : Prop where
  one : ∃ ws, SetIs wr B G m capS ws
  two : ∃ vs, SetIs wr C H n capT vs
  bel : Below S w wr
  hB : B < wr.heap.size
  hG : G < wr.heap.size
  hC : C < wr.heap.size
  hH : H < wr.heap.size
  b1 : S < B
  b2 : S < G
  b3 : S < C
  b4 : S < H
  n1 : B ≠ G
  n2 : C ≠ H
  n3 : B ≠ C
  n4 : B ≠ H
  n5 : G ≠ C
  n6 : G ≠ H

theorem putOne {S : Nat} {w wr : World} {B G C H m n capS capT : Nat} (h : Two S w wr B G C H m n capS capT) (hS : S ≤ w.heap.size) (z : Int) :
    Calls Tryd.prog 14 #[.pointer (some ⟨B, 0, none⟩), .int .i64 z, .bool true] wr fun e w' => (∃ b : Bool, e = .returned (.bool b)) ∧ Two S w w' B G C H m n capS capT ∧ ∀ o, w'.cell? ⟨S, o, none⟩ = wr.cell? ⟨S, o, none⟩ := by
  obtain ⟨ws, hs⟩ := h.one
  obtain ⟨vs, ht⟩ := h.two
  refine (put_any B G m capS ws z true wr hs h.n1).mono fun e w' ⟨he, h1, hg, hz⟩ => ⟨⟨_, he⟩, ⟨⟨_, h1⟩, ⟨_, ht.grown hg h.hC h.hH (Ne.symm h.n5) (Ne.symm h.n6)⟩, below_grown h.bel hg hS (Nat.le_of_lt h.b2), ?_, ?_, ?_, ?_, h.b1, h.b2, h.b3, h.b4, h.n1, h.n2, h.n3, h.n4, h.n5, h.n6⟩, fun o => World.cell?_of_block (a := ⟨S, o, none⟩) (hg.block S (Nat.lt_trans h.b1 h.hB) (fun e => absurd h.b2 (by injection e; omega)))⟩
  · rw [hz]; exact h.hB
  · rw [hz]; exact h.hG
  · rw [hz]; exact h.hC
  · rw [hz]; exact h.hH
theorem Two.swap {S : Nat} {w wr : World} {B G C H m n capS capT : Nat} (h : Two S w wr B G C H m n capS capT) : Two S w wr C H B G n m capT capS :=
  ⟨h.two, h.one, h.bel, h.hC, h.hH, h.hB, h.hG, h.b3, h.b4, h.b1, h.b2, h.n2, h.n1, Ne.symm h.n3, Ne.symm h.n5, Ne.symm h.n4, Ne.symm h.n6⟩

theorem same_known (B G C H m n capS capT : Nat) (ws vs : List Nat) (sb : Bool) (w : World) (hs : SetIs w B G m capS ws) (ht : SetIs w C H n capT vs) (hb : sb = true ↔ m = n ∧ ws = vs) :
    Calls Tryd.prog 26 #[.pointer (some ⟨B, 0, none⟩), .pointer (some ⟨C, 0, none⟩)] w fun e w' => e = .returned (.bool sb) ∧ ∃ k, w' = w.drewN k := by
  by_cases hmn : m = n
  · subst hmn
    exact (same_in B G C H m capS capT ws vs w hs ht).mono fun e w' ⟨⟨b, he, hb'⟩, hw⟩ => ⟨by
      have : b = sb := by rw [Bool.eq_iff_iff, hb, hb']; simp
      rw [he, this], hw⟩
  · have : sb = false := by
      cases sb with
      | false => rfl
      | true => exact absurd (hb.1 rfl).1 hmn
    subst this
    exact same_sizes B C m n w hs.cs ht.cs hmn

theorem has_nat (B G size cap : Nat) (ws : List Nat) (n : Nat) (w : World) (hs : SetIs w B G size cap ws) :
    Calls Tryd.prog 16 #[.pointer (some ⟨B, 0, none⟩), .int .i64 n] w fun e w' => e = .returned (.bool (hasB ws n)) ∧ ∃ k, w' = w.drewN k := by
  by_cases hn : n < size
  · exact has_in B G size cap ws n w hs hn
  · rw [hs.row.top n (by omega)]
    exact has_out B n size w hs.cs (by simp [mayB]; omega)

/-- The flag, when so many numbers have been looked at. -/
def SameTo (ws vs : List Nat) (m n k : Nat) (sb : Bool) : Prop := sb = true ↔ m = n ∧ ∀ j, j < k → hasB ws j = hasB vs j
theorem SameTo.step {ws vs : List Nat} {m n k : Nat} {sb : Bool} (h : SameTo ws vs m n k sb) (hk : hasB ws k = hasB vs k) : SameTo ws vs m n (k + 1) sb :=
  ⟨fun e => ⟨(h.1 e).1, fun j hj => by rcases Nat.lt_succ_iff_lt_or_eq.1 hj with hj | hj
                                       · exact (h.1 e).2 j hj
                                       · subst hj; exact hk⟩, fun e => h.2 ⟨e.1, fun j hj => e.2 j (by omega)⟩⟩
theorem sameTo_off {ws vs : List Nat} {m n k : Nat} (hk : ¬ hasB ws k = hasB vs k) : SameTo ws vs m n (k + 1) false :=
  ⟨fun e => Bool.noConfusion e, fun e => absurd (e.2 k (by omega)) hk⟩
theorem SameTo.whole {ws vs : List Nat} {m n : Nat} {sb : Bool} (h : SameTo ws vs m n 256 sb) (hs : SetW m ws) (ht : SetW n vs) (hm : m ≤ 256) (_hn : n ≤ 256) : sb = true ↔ m = n ∧ ws = vs :=
  ⟨fun e => by
    obtain ⟨rfl, h2⟩ := h.1 e
    exact ⟨rfl, ext_has hs ht (fun j hj => h2 j (by omega))⟩, fun e => h.2 ⟨e.1, fun j _ => by rw [e.2]⟩⟩

set_option maxRecDepth 100000 in
set_option maxHeartbeats 4000000 in
theorem sames_walk (m n : Nat) (hm : m < 256) (hn : n < 256) (pa pb : Option Addr) (ca cb : Nat) (za zb : List Int) (w : World) (ha : IntsP w.heap.size w pa za) (hb : IntsP w.heap.size w pb zb) (hla : za.length ≤ maxLen) (hlb : zb.length ≤ maxLen)
    (hT : TzTab w) (hTl : 1 < w.heap.size) :
    Calls Tryd.prog 7 #[.agg #[.int .u8 m, .int .u8 n], .slice pa za.length ca, .slice pb zb.length cb] w fun e w' => e = .returned (.bool true) ∧ Below w.heap.size w w' := by
  unfold maxLen at hla hlb
  have HT := Lib.hid hT
  have HA := Lib.hid ha
  have HB := Lib.hid hb
  clear hT ha hb
  by_cases hbig : 60 < za.length
  · have h1 : (60 : Int) < (za.length : Int) := by omega
    go_enter Tryd.func7, Tryd.ntmps7
    go_wp2_with fail
    refine (awake_any _ (HT.out.below ((Below.refl w.heap.size w).alloc (Nat.le_refl _) _) hTl) (by simp; omega)).mono ?_
    rintro e w1 ⟨rfl, hb1⟩
    have HB1 := Lib.hid hb1
    clear hb1
    go_wp2
    go_ret
    exact ⟨rfl, ((Below.refl w.heap.size w).alloc (Nat.le_refl _) _).trans (HB1.out.mono (by simp))⟩
  by_cases hbig2 : 60 < zb.length
  · have h1 : (za.length : Int) ≤ 60 := by omega
    have h2 : (60 : Int) < (zb.length : Int) := by omega
    go_enter Tryd.func7, Tryd.ntmps7
    go_wp2_with fail
    refine (awake_any _ (HT.out.below ((Below.refl w.heap.size w).alloc (Nat.le_refl _) _) hTl) (by simp; omega)).mono ?_
    rintro e w1 ⟨rfl, hb1⟩
    have HB1 := Lib.hid hb1
    clear hb1
    go_wp2
    go_ret
    exact ⟨rfl, ((Below.refl w.heap.size w).alloc (Nat.le_refl _) _).trans (HB1.out.mono (by simp))⟩
  have h1 : (za.length : Int) ≤ 60 := by omega
  have h2 : (zb.length : Int) ≤ 60 := by omega
  have hd1 : decide ((60 : Int) < (za.length : Int)) = false := by simpa using h1
  have hd2 : decide ((60 : Int) < (zb.length : Int)) = false := by simpa using h2
  go_enter Tryd.func7, Tryd.ntmps7
  go_wp2_with fail
  refine (new_lit _ m rfl _ (by omega)).mono ?_
  rintro e w1 ⟨B, G, rfl, hs1, hB1, hG1, hB2, hG2, hne1, hb1⟩
  simp only [World.size_alloc] at hB1 hG1
  have hbx : w1.cell? ⟨w.heap.size, 0, none⟩ = some (.int .u8 m) ∧ w1.cell? ⟨w.heap.size, 1, none⟩ = some (.int .u8 n) := by
    have k := bcell' hb1
    exact ⟨(k w.heap.size 0 (by simp)).trans (by simp), (k w.heap.size 1 (by simp)).trans (by simp)⟩
  obtain ⟨x0, x1⟩ := hbx
  have HS1 := Lib.hid hs1
  have HB1 := Lib.hid hb1
  clear hs1 hb1
  go_wp2_with fail
  refine (new_lit _ n rfl _ (by omega)).mono ?_
  rintro e w2 ⟨C, H, rfl, hs2, hC1, hH1, hC2, hH2, hne2, hb2⟩
  have hbx : w2.cell? ⟨w.heap.size, 0, none⟩ = some (.int .u8 m) ∧ w2.cell? ⟨w.heap.size, 1, none⟩ = some (.int .u8 n) := by
    have k := bcell' hb2
    exact ⟨(k w.heap.size 0 (by omega)).trans x0, (k w.heap.size 1 (by omega)).trans x1⟩
  have htwo : Two w.heap.size w w2 B G C H m n ((m + 63) / 64) ((n + 63) / 64) := ⟨⟨_, HS1.out.below hb2 hB2 hG2⟩, ⟨_, hs2⟩, ((Below.refl w.heap.size w).alloc (Nat.le_refl _) _).trans ((HB1.out.mono (by simp)).trans (hb2.mono (by omega))),
    by omega, by omega, hC2, hH2, by omega, by omega, by omega, by omega, hne1, hne2, by omega, by omega, by omega, by omega⟩
  have HTW := Lib.hid htwo
  clear hs2 hb2 htwo x0 x1 hC1 hH1 hC2 hH2 hB2 hG2
  obtain ⟨x0, x1⟩ := hbx
  clear hB1 hG1 HS1 HB1 hne1 hne2
  clear h1 h2
  go_wp2_with fail
  go_loopw [11] (fun i wr => ∃ k : Nat, k ≤ za.length ∧ i = .int .i64 k ∧ Two w.heap.size w wr B G C H m n ((m + 63) / 64) ((n + 63) / 64) ∧ wr.cell? ⟨w.heap.size, 0, none⟩ = some (.int .u8 m) ∧ wr.cell? ⟨w.heap.size, 1, none⟩ = some (.int .u8 n)) (fun i _ => za.length - (intOf i).toNat)
  case atStart => exact ⟨0, Nat.zero_le _, rfl, HTW.out, x0, x1⟩
  case round =>
    clear x0 x1 HTW
    obtain ⟨k, hk, rfl, htw, x0, x1⟩ := hrel
    have HTW := Lib.hid htw
    by_cases hlt : k < za.length
    · obtain ⟨b, off, rfl, hbS, hcx⟩ := (HA.out.below htw.bel) k hlt
      clear htw
      have i1 : (0 : Int) ≤ (k : Int) := Int.natCast_nonneg _
      have i2 : (k : Int) < (za.length : Int) := by omega
      go_wp2_with (go_at_call 14; refine (putOne HTW.out (Nat.le_refl _) _).mono ?_; rintro e w3 ⟨⟨bb, rfl⟩, ht2, hx2⟩)
      go_roundw
      case rel => exact ⟨k + 1, by omega, by go_num, ht2, (hx2 0).trans x0, (hx2 1).trans x1⟩
      case measure => simp [intOf]; omega
    · clear htw
      go_wp2
      clear hbig hbig2 hk hlt hd1 hd2
      go_loopw [12] (fun i wr => ∃ k : Nat, k ≤ zb.length ∧ i = .int .i64 k ∧ Two w.heap.size w wr B G C H m n ((m + 63) / 64) ((n + 63) / 64) ∧ wr.cell? ⟨w.heap.size, 0, none⟩ = some (.int .u8 m) ∧ wr.cell? ⟨w.heap.size, 1, none⟩ = some (.int .u8 n)) (fun i _ => zb.length - (intOf i).toNat)
      case atStart => exact ⟨0, Nat.zero_le _, rfl, HTW.out, x0, x1⟩
      case round =>
        clear x0 x1 HTW
        obtain ⟨k2, hk, rfl, htw, x0, x1⟩ := hrel
        have HTW := Lib.hid htw
        by_cases hlt : k2 < zb.length
        · obtain ⟨b, off, rfl, hbS, hcx⟩ := (HB.out.below htw.bel) k2 hlt
          clear htw
          have i1 : (0 : Int) ≤ (k2 : Int) := Int.natCast_nonneg _
          have i2 : (k2 : Int) < (zb.length : Int) := by omega
          go_wp2_with (go_at_call 14; refine (putOne HTW.out.swap (Nat.le_refl _) _).mono ?_; rintro e w3 ⟨⟨bb, rfl⟩, ht2, hx2⟩)
          go_roundw
          case rel => exact ⟨k2 + 1, by omega, by go_num, ht2.swap, (hx2 0).trans x0, (hx2 1).trans x1⟩
          case measure => simp [intOf]; omega
        · clear htw
          obtain ⟨ws, hs⟩ := HTW.out.one
          obtain ⟨vs, ht⟩ := HTW.out.two
          have HS := Lib.hid hs
          have HV := Lib.hid ht
          clear hs ht
          go_wp2
          clear hlt hk x0 x1
          obtain ⟨sb0, hsb0⟩ : ∃ sb : Bool, ((m : Int) == (n : Int)) = sb := ⟨_, rfl⟩
          rw [hsb0]
          have HSB : sb0 = true ↔ m = n := by rw [← hsb0, beq_iff_eq]; constructor <;> intro h <;> omega
          have HSB0 := Lib.hid HSB
          clear hsb0 HSB
          go_loopw [13, 14] (fun sm nn wq => ∃ k : Nat, k ≤ 256 ∧ nn = .int .i64 k ∧ (∃ sb : Bool, sm = .bool sb ∧ SameTo ws vs m n k sb) ∧ ∃ q, wq = wr.drewN q) (fun _ nn _ => 256 - (intOf nn).toNat)
          case atStart => exact ⟨0, by omega, rfl, ⟨sb0, rfl, ⟨fun h => ⟨HSB0.out.1 h, fun j hj => absurd hj (Nat.not_lt_zero _)⟩, fun h => HSB0.out.2 h.1⟩⟩, 0, rfl⟩
          case round =>
            obtain ⟨k3, hk, rfl, ⟨sb, rfl, hsame⟩, q, rfl⟩ := hrel
            by_cases hlt : k3 < 256
            · by_cases hne : hasB ws k3 = hasB vs k3
              · have hb : (!(hasB ws k3 == hasB vs k3)) = false := by rw [hne]; simp
                have HN := Lib.hid hne
                clear hne
                go_wp2_with fail
                refine (has_nat B G m _ ws k3 _ (HS.out.drewN _)).mono ?_
                rintro e w4 ⟨rfl, q1, rfl⟩
                go_wp2_with fail
                refine (has_nat C H n _ vs k3 _ (HV.out.drewN _)).mono ?_
                rintro e w4 ⟨rfl, q2, rfl⟩
                go_wp2
                go_roundw
                case rel => exact ⟨k3 + 1, by omega, by go_num, ⟨sb, rfl, hsame.step HN.out⟩, _, rfl⟩
                case measure => simp [intOf]; omega
              · have hb : (!(hasB ws k3 == hasB vs k3)) = true := by simpa using hne
                have HN := Lib.hid hne
                clear hne
                go_wp2_with fail
                refine (has_nat B G m _ ws k3 _ (HS.out.drewN _)).mono ?_
                rintro e w4 ⟨rfl, q1, rfl⟩
                go_wp2_with fail
                refine (has_nat C H n _ vs k3 _ (HV.out.drewN _)).mono ?_
                rintro e w4 ⟨rfl, q2, rfl⟩
                go_wp2
                go_roundw
                case rel => exact ⟨k3 + 1, by omega, by go_num, ⟨false, rfl, sameTo_off HN.out⟩, _, rfl⟩
                case measure => simp [intOf]; omega
            · obtain rfl : k3 = 256 := by omega
              have hfin := hsame.whole HS.out.row HV.out.row (by omega) (by omega)
              have HF := Lib.hid hfin
              clear hfin hsame hlt hk
              go_wp2_with fail
              refine (same_known B G C H m n _ _ ws vs sb _ (HS.out.drewN _) (HV.out.drewN _) HF.out).mono ?_
              rintro e w4 ⟨rfl, q1, rfl⟩
              go_wp2_with fail
              refine (same_known C H B G n m _ _ vs ws sb _ (HV.out.drewN _) (HS.out.drewN _) ⟨fun e => ⟨(HF.out.1 e).1.symm, (HF.out.1 e).2.symm⟩, fun e => HF.out.2 ⟨e.1.symm, e.2.symm⟩⟩).mono ?_
              rintro e w4 ⟨rfl, q2, rfl⟩
              go_wp2_with fail
              refine (same_known B G B G m m _ _ ws ws true _ (HS.out.drewN _) (HS.out.drewN _) ⟨fun _ => ⟨rfl, rfl⟩, fun _ => rfl⟩).mono ?_
              rintro e w4 ⟨rfl, q3, rfl⟩
              go_wp2_with fail
              have hBd : ∀ q, Below w.heap.size w (wr.drewN q) := fun q => ⟨HTW.out.bel.os, HTW.out.bel.tape, HTW.out.bel.output, HTW.out.bel.size, HTW.out.bel.block⟩
              have HBD := Lib.hid hBd
              clear hBd
              refine (awake_any _ (HT.out.below (HBD.out (q + q1 + q2 + q3)) hTl) (Nat.lt_of_lt_of_le hTl (HBD.out (q + q1 + q2 + q3)).size)).mono ?_
              rintro e w5 ⟨rfl, hb5⟩
              have HB5 := Lib.hid hb5
              clear hb5
              go_wp2
              go_ret
              exact ⟨rfl, (HBD.out _).trans (HB5.out.mono (HBD.out 0).size)⟩
end Go.Proofs.YtahhenbphnejiaaDoor.Bits
