/-
  The law FairGrows answers true, of every row, any who and any part of the row.
-/
import Derived.Test.YthofknjdmfpbeaaFaH
namespace Go.Proofs.Ythofknjdmfpbeaa.Fa
open Go.RowKit Go.Shelf
open Go.Proofs.Ythofknjdmfpbeaa.Row
attribute [local go_sem] Oper.semAt_some

theorem Gap.is {l : List Int} {n g : Nat} (h : Gap l n g) : fair l n (g + 1) = true := by
  by_cases hg : g < l.length
  · exact h.hi hg
  · exact fair_long (by omega)
theorem Gap.no {l : List Int} {n g : Nat} (h : Gap l n g) (hg : 1 ≤ g) : fair l n g = false := by
  have := h.lo (g - 1) (by omega)
  rwa [show g - 1 + 1 = g by omega] at this
/-- A part of a row is fair, if the row is. -/
theorem fair_part {l : List Int} {n k a b : Nat} (h : fair l n k = true) (hab : a ≤ b) (hb : b ≤ l.length) : fair (win l a (b - a)) n k = true := fair_iff.2 fun i hi p hp => by
  rw [win_len (by omega)] at hi
  obtain ⟨j, h1, h2, h3⟩ := win_mem.1 (fair_iff.1 h (a + i) (by omega) p hp)
  exact win_mem.2 ⟨j, h1, by rw [win_len (by omega)]; omega, by rw [win_at (by omega), ← h3]; congr 1; omega⟩
theorem Gap.part {l : List Int} {n g g' a b : Nat} (h : Gap l n g) (hab : a ≤ b) (hb : b ≤ l.length) (h' : Gap (win l a (b - a)) n g') : g' ≤ g := by
  rcases Nat.lt_or_ge g g' with e | e
  · have := h'.lo g e
    rw [fair_part h.is hab hb] at this
    cases this
  · exact e
/-- A part of a row reads so. -/
theorem Pk.part {w : World} {g off : Nat} {l : List Int} {cap a b : Nat} (h : Pk w (some ⟨g, off, none⟩) l cap) (hab : a ≤ b) (hb : b ≤ l.length) : Pk w (some ⟨g, off + a, none⟩) (win l a (b - a)) (cap - a) :=
  ⟨fun j hj => by
    rw [win_len (by omega)] at hj
    exact ⟨g, off + a, rfl, by rw [win_at hj, show off + a + j = off + (a + j) by omega]; exact h.all _ (by omega)⟩, by rw [win_len (by omega)]; have := h.len; omega, by rw [win_len (by omega)]; have := h.cap; omega⟩

theorem Pk.part' {w : World} {p : Option Addr} {l : List Int} {cap a b : Nat} (h : Pk w p l cap) (hab : a ≤ b) (hb : b ≤ l.length) : Pk w (p.map fun x => x.add a) (win l a (b - a)) (cap - a) := by
  by_cases h0 : l.length = 0
  · have e : win l a (b - a) = [] := List.eq_nil_of_length_eq_zero (by rw [win_len (by omega)]; omega)
    rw [e]
    exact ⟨fun j hj => absurd hj (by simp), by simp, by simp; have := h.cap; omega⟩
  · obtain ⟨g, off, rfl, _⟩ := h.rd 0 (by omega)
    have := h.part hab hb
    have e : ((some (⟨g, off, none⟩ : Addr)).map fun x => x.add a) = some ⟨g, off + a, none⟩ := by simp [Addr.add]
    rw [e]
    exact this
theorem Pk.none {w : World} {p : Option Addr} {l : List Int} {a b cap : Nat} (_ : Pk w p l cap) (hb : a + (b - a) ≤ l.length) (h : b - a = 0) : Pk w p (win l a (b - a)) 0 := by
  rw [show win l a (b - a) = [] from List.eq_nil_of_length_eq_zero (by rw [win_len hb]; exact h)]
  exact ⟨fun j hj => absurd hj (by simp), by simp, by simp⟩
theorem fair_anyL {p : Option Addr} {l : List Int} {cap L : Nat} (n k : Int) (w : World) (h : Pk w p l cap) (hL : l.length = L) : Calls Try.prog 10 #[.slice p L cap, .int .i64 n, .int .i64 k] w fun e w' => e = .returned (.bool (fairI l n k)) ∧ Below w.heap.size w w' := hL ▸ fair_any n k w h
theorem gap_anyL {p : Option Addr} {l : List Int} {cap L : Nat} (n : Int) (hn : 1 ≤ n) (w : World) (h : Pk w p l cap) (hL : l.length = L) :
    Calls Try.prog 11 #[.slice p L cap, .int .i64 n] w fun e w' => ∃ g : Nat, e = .returned (.int .i64 (1 + (g : Int))) ∧ Gap l n.toNat g ∧ Below w.heap.size w w' := hL ▸ gap_any n hn w h

theorem fairI_nat (l : List Int) (n k : Nat) (hn : 1 ≤ n) (hk : 1 ≤ k) : fairI l (n : Int) (k : Int) = fair l n k := by
  unfold fairI
  rw [decide_eq_true (show (1 : Int) ≤ n by omega), decide_eq_true (show (1 : Int) ≤ k by omega)]
  rfl

set_option maxHeartbeats 4000000 in
set_option maxRecDepth 100000 in
theorem grows_walk (p : Option Addr) (l : List Int) (cap : Nat) (who c0 c1 : Nat) (hw : who < 256) (h0 : c0 < 256) (h1 : c1 < 256) (w : World) (hrd : Rd0 w p l) (hcap : l.length ≤ cap ∧ cap ≤ maxLen) :
    Calls Try.prog 6 #[.slice p l.length cap, .int .u8 who, .agg #[.int .u8 c0, .int .u8 c1]] w fun e w' => e = .returned (.bool true) ∧ Below w.heap.size w w' := by
  by_cases hbig : 80 < l.length
  · have i0 : (80 : Int) < (l.length : Int) := by omega
    clear hrd
    go_enter Try.func6, Try.ntmps6
    go_wp2_with (go_at_call 8; refine (awake_any _).mono ?_; rintro e w1 ⟨rfl, hb⟩)
    go_ret
    exact ⟨rfl, ((Below.refl _ _).alloc (Nat.le_refl _) _).trans (hb.mono (by simp))⟩
  have i0 : ¬ (80 : Int) < (l.length : Int) := by omega
  have H : Hid (Pk w p l cap) := Lib.hid ⟨hrd, by omega, hcap⟩
  clear hrd
  obtain ⟨n, hn⟩ : ∃ n : Nat, 1 + (who : Int) % 6 = (n : Int) := ⟨1 + who % 6, by omega⟩
  have hn1 : 1 ≤ n := by omega
  have hn6 : n ≤ 6 := by omega
  obtain ⟨a, ha⟩ : ∃ a : Nat, min (c0 : Int) (l.length : Int) = (a : Int) := ⟨min c0 l.length, by omega⟩
  obtain ⟨b, hb⟩ : ∃ b : Nat, min ((a : Int) + (c1 : Int)) (l.length : Int) = (b : Int) := ⟨min (a + c1) l.length, by omega⟩
  have hab : a ≤ b := by omega
  have hbl : b ≤ l.length := by omega
  have habz : (a : Int) ≤ (b : Int) := by omega
  have hbcz : (b : Int) ≤ (cap : Int) := by omega
  go_enter Try.func6, Try.ntmps6
  go_wp2_with fail
  have hb0 : Below w.heap.size w (w.alloc (.cells #[.int .u8 c0, .int .u8 c1] 35)) := (Below.refl _ _).alloc (Nat.le_refl _) _
  have e0 : (w.alloc (.cells #[.int .u8 c0, .int .u8 c1] 35)).cell? ⟨w.heap.size, 0, none⟩ = some (.int .u8 c0) := by simp
  have e1 : (w.alloc (.cells #[.int .u8 c0, .int .u8 c1] 35)).cell? ⟨w.heap.size, 1, none⟩ = some (.int .u8 c1) := by simp
  have hsz : (w.alloc (.cells #[.int .u8 c0, .int .u8 c1] 35)).heap.size = w.heap.size + 1 := by simp
  generalize hW : World.alloc _ _ = W at *
  have HFA := Lib.hid (fun k W' (hb : Below w.heap.size w W') => fair_any (n : Int) k W' (H.out.later hb))
  refine (gap_any (n : Int) (by omega) W (H.out.later hb0)).mono ?_
  rintro e w1 ⟨g, rfl, hg, hb1⟩
  rw [Int.toNat_natCast] at hg
  have HG := Lib.hid hg
  have hgl := hg.le
  have HB1 := Lib.hid (hb0.trans (hb1.mono hb0.size))
  have d0 := (hb1.cell (p := ⟨w.heap.size, 0, none⟩) (by simp; omega)).trans e0
  have d1 := (hb1.cell (p := ⟨w.heap.size, 1, none⟩) (by simp; omega)).trans e1
  have s1 := hb1.size
  clear hg hb1 hW hb0 e0 e1
  have f1 : fairI l (n : Int) (1 + (g : Int)) = true := by rw [show (1 : Int) + (g : Int) = ((g + 1 : Nat) : Int) by omega, fairI_nat l n (g + 1) hn1 (by omega)]; exact HG.out.is
  have f2 : fairI l (n : Int) (1 + (g : Int) + 1) = true := by rw [show (1 : Int) + (g : Int) + 1 = ((g + 2 : Nat) : Int) by omega, fairI_nat l n (g + 2) hn1 (by omega)]; exact fair_more HG.out.is (by omega)
  have HF1 := Lib.hid f1
  have HF2 := Lib.hid f2
  clear f1 f2
  go_wp2_with (go_at_call 10; fail)
  refine (HFA.out _ _ HB1.out).mono ?_
  rintro e w2 ⟨rfl, hb2⟩
  rw [HF1.out]
  have HB2 := Lib.hid (HB1.out.trans (hb2.mono HB1.out.size))
  have d20 := (hb2.cell (p := ⟨w.heap.size, 0, none⟩) (by simp; omega)).trans d0
  have d21 := (hb2.cell (p := ⟨w.heap.size, 1, none⟩) (by simp; omega)).trans d1
  have s2 := hb2.size
  clear hb2 d0 d1
  go_wp2_with (go_at_call 10; fail)
  refine (HFA.out _ _ HB2.out).mono ?_
  rintro e w3 ⟨rfl, hb3⟩
  rw [HF2.out]
  have HB3 := Lib.hid (HB2.out.trans (hb3.mono HB2.out.size))
  have d30 := (hb3.cell (p := ⟨w.heap.size, 0, none⟩) (by simp; omega)).trans d20
  have d31 := (hb3.cell (p := ⟨w.heap.size, 1, none⟩) (by simp; omega)).trans d21
  have s3 := hb3.size
  clear hb3 d20 d21
  by_cases hg1 : 1 ≤ g
  · have f3 : fairI l (n : Int) (1 + (g : Int) - 1) = false := by rw [show (1 : Int) + (g : Int) - 1 = ((g : Nat) : Int) by omega, fairI_nat l n g hn1 (by omega)]; exact HG.out.no hg1
    have HF3 := Lib.hid f3
    clear f3
    go_wp2_with (go_at_call 10; fail)
    refine (HFA.out _ _ HB3.out).mono ?_
    rintro e w4 ⟨rfl, hb4⟩
    rw [HF3.out]
    have HB4 := Lib.hid (HB3.out.trans (hb4.mono HB3.out.size))
    have d40 := (hb4.cell (p := ⟨w.heap.size, 0, none⟩) (by simp; omega)).trans d30
    have d41 := (hb4.cell (p := ⟨w.heap.size, 1, none⟩) (by simp; omega)).trans d31
    clear hb4 d30 d31
    go_wp2_with (go_at_call 10; fail)
    · have HP : Hid (∀ W, Below w.heap.size w W → Pk W p (win l a (b - a)) 0) := Lib.hid fun W hW => (H.out.later hW).none (by omega) (by have := H.out.cap; omega)
      have hfp : fairI (win l a (b - a)) (n : Int) (1 + (g : Int)) = true := by rw [show ((1 + (g : Int)) : Int) = ((g + 1 : Nat) : Int) by omega, fairI_nat _ n (g + 1) hn1 (by omega)]; exact fair_part HG.out.is hab hbl
      have HFP := Lib.hid hfp
      clear hfp
      refine (fair_anyL (n : Int) (1 + (g : Int)) w4 (HP.out _ HB4.out) (win_len (by omega))).mono ?_
      rintro e w5 ⟨rfl, hb5⟩
      rw [HFP.out]
      have HB5 := Lib.hid (HB4.out.trans (hb5.mono HB4.out.size))
      clear hb5
      go_wp2_with (go_at_call 11; fail)
      refine (gap_anyL (n : Int) (by omega) w5 (HP.out _ HB5.out) (win_len (by omega))).mono ?_
      rintro e w6 ⟨g', rfl, hg', hb6⟩
      rw [Int.toNat_natCast] at hg'
      have hgg := HG.out.part hab hbl hg'
      have hgz : (1 : Int) + (g' : Int) ≤ 1 + (g : Int) := by omega
      have hgl' := hg'.le
      rw [win_len (by omega)] at hgl'
      have HB6 := Lib.hid (HB5.out.trans (hb6.mono HB5.out.size))
      clear hb6 hg'
      go_wp2_with (go_at_call 8; refine (awake_any _).mono ?_; rintro e w7 ⟨rfl, hb7⟩)
      go_ret
      exact ⟨rfl, HB6.out.trans (hb7.mono HB6.out.size)⟩
    · have HP : Hid (∀ W, Below w.heap.size w W → Pk W (p.map fun x => x.add a) (win l a (b - a)) (cap - a)) := Lib.hid fun W hW => (H.out.later hW).part' hab hbl
      have hfp : fairI (win l a (b - a)) (n : Int) (1 + (g : Int)) = true := by rw [show ((1 + (g : Int)) : Int) = ((g + 1 : Nat) : Int) by omega, fairI_nat _ n (g + 1) hn1 (by omega)]; exact fair_part HG.out.is hab hbl
      have HFP := Lib.hid hfp
      clear hfp
      refine (fair_anyL (n : Int) (1 + (g : Int)) w4 (HP.out _ HB4.out) (win_len (by omega))).mono ?_
      rintro e w5 ⟨rfl, hb5⟩
      rw [HFP.out]
      have HB5 := Lib.hid (HB4.out.trans (hb5.mono HB4.out.size))
      clear hb5
      go_wp2_with (go_at_call 11; fail)
      refine (gap_anyL (n : Int) (by omega) w5 (HP.out _ HB5.out) (win_len (by omega))).mono ?_
      rintro e w6 ⟨g', rfl, hg', hb6⟩
      rw [Int.toNat_natCast] at hg'
      have hgg := HG.out.part hab hbl hg'
      have hgz : (1 : Int) + (g' : Int) ≤ 1 + (g : Int) := by omega
      have hgl' := hg'.le
      rw [win_len (by omega)] at hgl'
      have HB6 := Lib.hid (HB5.out.trans (hb6.mono HB5.out.size))
      clear hb6 hg'
      go_wp2_with (go_at_call 8; refine (awake_any _).mono ?_; rintro e w7 ⟨rfl, hb7⟩)
      go_ret
      exact ⟨rfl, HB6.out.trans (hb7.mono HB6.out.size)⟩
  · obtain rfl : g = 0 := by omega
    go_wp2_with (go_at_call 10; fail)
    · have HP : Hid (∀ W, Below w.heap.size w W → Pk W p (win l a (b - a)) 0) := Lib.hid fun W hW => (H.out.later hW).none (by omega) (by have := H.out.cap; omega)
      have hfp : fairI (win l a (b - a)) (n : Int) 1 = true := by rw [show (1 : Int) = ((0 + 1 : Nat) : Int) by omega, fairI_nat _ n (0 + 1) hn1 (by omega)]; exact fair_part HG.out.is hab hbl
      have HFP := Lib.hid hfp
      clear hfp
      refine (fair_anyL (n : Int) 1 w3 (HP.out _ HB3.out) (win_len (by omega))).mono ?_
      rintro e w5 ⟨rfl, hb5⟩
      rw [HFP.out]
      have HB5 := Lib.hid (HB3.out.trans (hb5.mono HB3.out.size))
      clear hb5
      go_wp2_with (go_at_call 11; fail)
      refine (gap_anyL (n : Int) (by omega) w5 (HP.out _ HB5.out) (win_len (by omega))).mono ?_
      rintro e w6 ⟨g', rfl, hg', hb6⟩
      rw [Int.toNat_natCast] at hg'
      have hgg := HG.out.part hab hbl hg'
      have hgz : (1 : Int) + (g' : Int) ≤ 1 := by omega
      have hgl' := hg'.le
      rw [win_len (by omega)] at hgl'
      have HB6 := Lib.hid (HB5.out.trans (hb6.mono HB5.out.size))
      clear hb6 hg'
      go_wp2_with (go_at_call 8; refine (awake_any _).mono ?_; rintro e w7 ⟨rfl, hb7⟩)
      go_ret
      exact ⟨rfl, HB6.out.trans (hb7.mono HB6.out.size)⟩
    · have HP : Hid (∀ W, Below w.heap.size w W → Pk W (p.map fun x => x.add a) (win l a (b - a)) (cap - a)) := Lib.hid fun W hW => (H.out.later hW).part' hab hbl
      have hfp : fairI (win l a (b - a)) (n : Int) 1 = true := by rw [show (1 : Int) = ((0 + 1 : Nat) : Int) by omega, fairI_nat _ n (0 + 1) hn1 (by omega)]; exact fair_part HG.out.is hab hbl
      have HFP := Lib.hid hfp
      clear hfp
      refine (fair_anyL (n : Int) 1 w3 (HP.out _ HB3.out) (win_len (by omega))).mono ?_
      rintro e w5 ⟨rfl, hb5⟩
      rw [HFP.out]
      have HB5 := Lib.hid (HB3.out.trans (hb5.mono HB3.out.size))
      clear hb5
      go_wp2_with (go_at_call 11; fail)
      refine (gap_anyL (n : Int) (by omega) w5 (HP.out _ HB5.out) (win_len (by omega))).mono ?_
      rintro e w6 ⟨g', rfl, hg', hb6⟩
      rw [Int.toNat_natCast] at hg'
      have hgg := HG.out.part hab hbl hg'
      have hgz : (1 : Int) + (g' : Int) ≤ 1 := by omega
      have hgl' := hg'.le
      rw [win_len (by omega)] at hgl'
      have HB6 := Lib.hid (HB5.out.trans (hb6.mono HB5.out.size))
      clear hb6 hg'
      go_wp2_with (go_at_call 8; refine (awake_any _).mono ?_; rintro e w7 ⟨rfl, hb7⟩)
      go_ret
      exact ⟨rfl, HB6.out.trans (hb7.mono HB6.out.size)⟩
end Go.Proofs.Ythofknjdmfpbeaa.Fa
