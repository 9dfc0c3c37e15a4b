/-
  The law LogPlays answers true, for every room and whatever is done.
-/
import Derived.Test.YtfiaajlagkfkjaaLogD
namespace Go.Proofs.Ytfiaajlagkfkjaa.Lg
open Go.RowKit
open Go.Proofs.Ytfiaajlagkfkjaa.Row

/-- A row of the law's, that lies in neither block. -/
structure RV (B X : Nat) (w : World) (p : Option Addr) (cap : Nat) (xs : List Int) : Prop where
  rd : Rd w p xs
  nc : p = none → cap = 0
  le : xs.length ≤ cap
  ap : ∀ g, rowB p g → ¬ BX B X g ∧ g < w.heap.size
theorem RV.nil (B X : Nat) (w : World) : RV B X w none 0 [] := ⟨Rd.nil _, fun _ => rfl, Nat.le_refl _, fun g hg => absurd hg (rowB_none g)⟩
theorem RV.chg {B X : Nat} {w w' : World} {p : Option Addr} {cap : Nat} {xs : List Int} (h : RV B X w p cap xs) (hc : Chg (BX B X) w w') : RV B X w' p cap xs :=
  ⟨h.rd.chg hc (fun g hg => (h.ap g hg).1), h.nc, h.le, fun g hg => ⟨(h.ap g hg).1, Nat.lt_of_lt_of_le (h.ap g hg).2 hc.size⟩⟩
theorem RV.first {B X : Nat} {w : World} {p : Option Addr} {cap : Nat} {x : Int} {xs : List Int} (h : RV B X w p cap (x :: xs)) : ∃ g off, p = some ⟨g, off, none⟩ ∧ w.cell? ⟨g, off, none⟩ = some (.int .i64 x) := by
  obtain ⟨g, off, rfl, hx⟩ := h.rd.at (j := 0) (by simp)
  exact ⟨g, off, rfl, by simpa using hx⟩
theorem RV.tail {B X : Nat} {w : World} {g off cap : Nat} {x : Int} {xs : List Int} (h : RV B X w (some ⟨g, off, none⟩) cap (x :: xs)) : RV B X w (some ⟨g, off + 1, none⟩) (cap - 1) xs :=
  ⟨.inr ⟨g, off + 1, rfl, fun j hj => by
    obtain ⟨g', off', e, hc⟩ := h.rd.at (j := j + 1) (by simp; omega)
    cases e
    rw [List.getD_cons_succ, ← Nat.add_assoc, Nat.add_right_comm] at hc
    exact hc⟩, (fun e => by cases e), (by have := h.le; simp at this; omega), fun k hk => h.ap k hk⟩
theorem RV.last {B X : Nat} {w : World} {g off : Nat} {x : Int} {xs : List Int} (h : RV B X w (some ⟨g, off, none⟩) 1 (x :: xs)) : RV B X w (some ⟨g, off, none⟩) 0 xs := by
  have hl : xs.length = 0 := by have := h.le; simp at this; simp [this]
  exact ⟨.inr ⟨g, off, rfl, fun j hj => by omega⟩, (fun e => by cases e), (by omega), fun k hk => h.ap k hk⟩
theorem RV.grown {B X : Nat} {w Y0 w3 : World} {p : Option Addr} {cap : Nat} {xs : List Int} {x : Int} {v' : Value} (h : RV B X w p cap xs) (hB : B < w.heap.size) (hX : X < w.heap.size) (hb0 : Below w.heap.size w Y0)
    (hown : w3.ownsRow Y0.heap.size 3 1 v' (xs.length + 1) (cellsZ xs ++ [.int .i64 x])) (hg : Y0.grownBy w3 none) :
    ∃ p' cap', v' = .slice p' (xs.length + 1) cap' ∧ RV B X w3 p' cap' (xs ++ [x]) ∧ Below w.heap.size w w3 := by
  obtain ⟨p', cap', rfl, hb3, ho3⟩ := grow_row hb0 hown hg
  have hlen : (xs ++ [x]).length = xs.length + 1 := by simp
  rw [← hlen] at ho3 ⊢
  rw [← cellsZ_snoc] at ho3
  refine ⟨p', cap', rfl, ⟨Rd.of_owns ho3, fun e => by subst e; exact owns_none ho3, (owns_cap ho3).1, fun g hg' => ⟨fun e => ?_, (owns_lt ho3 hg').2⟩⟩, hb3⟩
  have := (owns_lt ho3 hg').1
  rcases e with e | e <;> omega

/-- What is done, that came in, below S. -/
def DeedsP (S : Nat) (W : World) (p : Option Addr) (l : List (Nat × Int)) : Prop := ∀ j, j < l.length → ∃ b off, p = some ⟨b, off, none⟩ ∧ b < S ∧ W.cell? ⟨b, off + j * 2, none⟩ = some (.int .u8 ((l.getD j (0, 0)).1 : Nat)) ∧ W.cell? ⟨b, off + j * 2 + 1, none⟩ = some (.int .i64 (l.getD j (0, 0)).2)

set_option maxRecDepth 100000 in
set_option maxHeartbeats 16000000 in
theorem plays_walk (s : Nat) (hs : s < 256) (pa : Option Addr) (ca : Nat) (l : List (Nat × Int)) (w : World) (ha : DeedsP w.heap.size w pa l) (hla : l.length ≤ maxLen) :
    Calls Try.prog 7 #[.int .u8 s, .slice pa l.length ca] w fun e w' => e = .returned (.bool true) ∧ Below w.heap.size w w' := by
  unfold maxLen at hla
  obtain ⟨i0, hinf, hz0, hz1, hz2⟩ := info_parts infoInt
  have HA := Lib.hid ha
  clear ha
  by_cases hbig : 200 < l.length
  · have h1 : (200 : Int) < (l.length : Int) := by omega
    go_enter Try.func7, Try.ntmps7
    go_wp2_with fail
    refine (awake_any _).mono ?_
    rintro e w1 ⟨rfl, hb1⟩
    have HB1 := Lib.hid hb1
    clear hb1
    go_wp2
    go_ret
    exact ⟨rfl, HB1.out⟩
  have h1 : (l.length : Int) ≤ 200 := by omega
  have hd1 : decide ((200 : Int) < (l.length : Int)) = false := by simpa using h1
  obtain ⟨k, hk1, hk2, hk⟩ : ∃ k : Nat, 1 ≤ k ∧ k ≤ 20 ∧ 1 + (s : Int) % 20 = (k : Int) := ⟨1 + s % 20, by omega, by omega, by omega⟩
  go_enter Try.func7, Try.ntmps7
  go_wp2_with fail
  refine (new_good k _ (by omega) _ hk1 (by omega)).mono ?_
  rintro e w1 ⟨rfl, hb, hb1, hz1'⟩
  have HB := Lib.hid hb
  have HB1 := Lib.hid hb1
  clear hb hb1
  go_wp2_with fail
  refine (box_new _).mono ?_
  rintro e w2 ⟨rfl, hx, hb2, hz2'⟩
  have hlo : Lo w.heap.size (BX w.heap.size w1.heap.size) w w2 w.heap.size w1.heap.size k [] [] :=
    ⟨(HB.out _ (.inl rfl)).later hb2, hx _ (.inr rfl), HB1.out.trans (hb2.mono HB1.out.size), by omega, Nat.le_refl _, by omega, fun k hk => hk.elim (fun e => by omega) (fun e => by omega)⟩
  have HO := Lib.hid hlo
  clear hx hb2 hlo HB HB1
  generalize hB : w.heap.size = B at *
  have HS : Hid (B = w.heap.size) := Lib.hid hB.symm
  generalize w1.heap.size = X at *
  clear hz1' hz2' hB hk
  go_wp2_with fail
  go_loopw [9, 10, 11] (fun hv bv i wr => ∃ (c : Nat) (hs bs : List Int) (ph : Option Addr) (ch : Nat) (pb : Option Addr) (cb : Nat), c ≤ l.length ∧ i = .int .i64 c ∧ hv = .slice ph hs.length ch ∧ bv = .slice pb bs.length cb ∧ Lo B (BX B X) w wr B X k hs bs ∧ RV B X wr ph ch hs ∧ RV B X wr pb cb bs) (fun _ _ i _ => l.length - (intOf i).toNat)
  case atStart => exact ⟨0, [], [], none, 0, none, 0, Nat.zero_le _, rfl, rfl, rfl, HO.out, RV.nil _ _ _, RV.nil _ _ _⟩
  case round =>
    clear HO
    obtain ⟨c, hs, bs, ph, ch, pb, cb, hc, rfl, rfl, rfl, hst, hrh, hrb⟩ := hrel
    have HO := Lib.hid hst
    have RH := Lib.hid hrh
    have RB := Lib.hid hrb
    have hshort := hst.bf.len
    clear hst hrh hrb
    by_cases hlt : c < l.length
    · obtain ⟨b, off, rfl, hbS, hw1, hw2⟩ := HA.out c hlt
      have hc1 := (HO.out.bel.cell (p := ⟨b, _, none⟩) hbS).trans hw1
      have hc2 := (HO.out.bel.cell (p := ⟨b, _, none⟩) hbS).trans hw2
      have i1 : (0 : Int) ≤ (c : Int) := Int.natCast_nonneg _
      have i2 : (c : Int) < (l.length : Int) := by omega
      have HW1 := Lib.hid hw1
      clear hw1
      have HQ : Hid (∀ W, Below B w W → W.cell? ⟨b, off + c * 2, none⟩ = some (.int .u8 ((l.getD c (0, 0)).1 : Nat))) := Lib.hid fun W hW => (hW.cell (p := ⟨b, off + c * 2, none⟩) hbS).trans HW1.out
      clear HW1
      generalize l.getD c (0, 0) = d at *
      obtain ⟨q, x⟩ := d
      simp only at hc1 hc2 hw2 HQ
      have HW2 := Lib.hid hw2
      clear hw2
      by_cases h0 : q = 0
      · subst h0
        rcases hs with _ | ⟨y, hs⟩
        · have hrun := next_empty wr HO.out.bf
          have HR := Lib.hid hrun
          clear hrun
          go_wp2_with fail
          refine HR.out.mono ?_
          rintro e w3 ⟨rfl, rfl⟩
          have HF := HO
          have RHF := RH
          have RBF := RB
          clear HO RH RB HR
          have hdk : decide (([] : List Int).length = k) = false := by simp; omega
          have hll := HF.out.len
          have hbl := HF.out.blen
          have hfl := HF.out.full (Nat.le_of_eq HS.out)
          rw [hdk] at hfl
          have HLL := Lib.hid hll
          have HBL := Lib.hid hbl
          have HFL := Lib.hid hfl
          clear hll hbl hfl hdk
          go_wp2_with fail
          refine HLL.out.mono ?_
          rintro e wa ⟨rfl, rfl⟩
          go_wp2_with fail
          refine HBL.out.mono ?_
          rintro e wa ⟨rfl, rfl⟩
          go_wp2_with fail
          refine HFL.out.mono ?_
          rintro e w9 ⟨rfl, h9, c9⟩
          have H9 := Lib.hid h9
          have RH9 := Lib.hid (RHF.out.chg c9)
          have RB9 := Lib.hid (RBF.out.chg c9)
          clear h9 c9 HF RHF RBF
          go_wp2
          go_roundw
          case rel => exact ⟨c + 1, ([] : List Int), bs, ph, ch, pb, cb, by omega, by go_num, by simp, by simp, H9.out, RH9.out, RB9.out⟩
          case measure => simp [intOf]; omega
        · obtain ⟨g, o, rfl, hy⟩ := RH.out.first
          have HY : Hid (∀ W, Chg (BX B X) wr W → W.cell? ⟨g, o, none⟩ = some (.int .i64 y)) := Lib.hid fun W hW => (hW.cell (p := ⟨g, o, none⟩) (RH.out.ap g rfl).2 (RH.out.ap g rfl).1).trans hy
          have hle := RH.out.le
          have hlen : (y :: hs).length = hs.length + 1 := by simp
          rw [hlen] at hle
          clear hlen
          have hyy : (y != y) = false := by simp
          clear hy
          go_wp2_with fail
          refine (HO.out.take (Nat.le_of_eq HS.out)).mono ?_
          rintro e w3 ⟨rfl, h3, c3⟩
          have HF := Lib.hid h3
          have RH3 := Lib.hid (RH.out.chg c3)
          have RBF := Lib.hid (RB.out.chg c3)
          have hy3 := HY.out w3 c3
          have hmk : hs.length ≤ 20 := by simp at hshort; omega
          clear h3 c3 HO RH RB HY hshort
          by_cases hcap : ch = 1
          · subst hcap
            obtain rfl : hs = [] := List.eq_nil_of_length_eq_zero (by omega)
            have RHF := Lib.hid RH3.out.last
            clear RH3
            have hdk : decide (([] : List Int).length = k) = false := by simp; omega
            have hll := HF.out.len
            have hbl := HF.out.blen
            have hfl := HF.out.full (Nat.le_of_eq HS.out)
            rw [hdk] at hfl
            have HLL := Lib.hid hll
            have HBL := Lib.hid hbl
            have HFL := Lib.hid hfl
            clear hll hbl hfl hdk
            go_wp2_with fail
            refine HLL.out.mono ?_
            rintro e wa ⟨rfl, rfl⟩
            go_wp2_with fail
            refine HBL.out.mono ?_
            rintro e wa ⟨rfl, rfl⟩
            go_wp2_with fail
            refine HFL.out.mono ?_
            rintro e w9 ⟨rfl, h9, c9⟩
            have H9 := Lib.hid h9
            have RH9 := Lib.hid (RHF.out.chg c9)
            have RB9 := Lib.hid (RBF.out.chg c9)
            clear h9 c9 HF RHF RBF
            go_wp2
            go_roundw
            case rel => exact ⟨c + 1, ([] : List Int), bs, (some ⟨g, o, none⟩), 0, pb, cb, by omega, by go_num, by simp, by simp, H9.out, RH9.out, RB9.out⟩
            case measure => simp [intOf]; omega
          · have RHF := Lib.hid RH3.out.tail
            clear RH3
            obtain ⟨dk, hdk⟩ : ∃ dk, decide ((hs).length = k) = dk := ⟨_, rfl⟩
            have hfk : ((((hs).length : Nat) : Int) == (k : Int)) = dk := by rw [← hdk, Bool.eq_iff_iff]; simp; omega
            have hbb : (dk == dk) = true := by simp
            have hll := HF.out.len
            have hbl := HF.out.blen
            have hfl := HF.out.full (Nat.le_of_eq HS.out)
            rw [hdk] at hfl
            have HLL := Lib.hid hll
            have HBL := Lib.hid hbl
            have HFL := Lib.hid hfl
            clear hll hbl hfl hdk
            go_wp2_with fail
            refine HLL.out.mono ?_
            rintro e wa ⟨rfl, rfl⟩
            go_wp2_with fail
            refine HBL.out.mono ?_
            rintro e wa ⟨rfl, rfl⟩
            go_wp2_with fail
            refine HFL.out.mono ?_
            rintro e w9 ⟨rfl, h9, c9⟩
            have H9 := Lib.hid h9
            have RH9 := Lib.hid (RHF.out.chg c9)
            have RB9 := Lib.hid (RBF.out.chg c9)
            clear h9 c9 HF RHF RBF
            go_wp2
            go_roundw
            case rel => exact ⟨c + 1, hs, bs, (some ⟨g, o + 1, none⟩), (ch - 1), pb, cb, by omega, by go_num, by simp, by simp, H9.out, RH9.out, RB9.out⟩
            case measure => simp [intOf]; omega
      by_cases h3 : q = 3
      · subst h3
        rcases bs with _ | ⟨y, bs⟩
        · have hrun := bnext_empty wr HO.out.bx
          have HR := Lib.hid hrun
          clear hrun
          go_wp2_with fail
          refine HR.out.mono ?_
          rintro e w3 ⟨rfl, rfl⟩
          have HF := HO
          have RHF := RH
          have RBF := RB
          clear HO RH RB HR
          obtain ⟨dk, hdk⟩ : ∃ dk, decide ((hs).length = k) = dk := ⟨_, rfl⟩
          have hfk : ((((hs).length : Nat) : Int) == (k : Int)) = dk := by rw [← hdk, Bool.eq_iff_iff]; simp; omega
          have hbb : (dk == dk) = true := by simp
          have hll := HF.out.len
          have hbl := HF.out.blen
          have hfl := HF.out.full (Nat.le_of_eq HS.out)
          rw [hdk] at hfl
          have HLL := Lib.hid hll
          have HBL := Lib.hid hbl
          have HFL := Lib.hid hfl
          clear hll hbl hfl hdk
          go_wp2_with fail
          refine HLL.out.mono ?_
          rintro e wa ⟨rfl, rfl⟩
          go_wp2_with fail
          refine HBL.out.mono ?_
          rintro e wa ⟨rfl, rfl⟩
          go_wp2_with fail
          refine HFL.out.mono ?_
          rintro e w9 ⟨rfl, h9, c9⟩
          have H9 := Lib.hid h9
          have RH9 := Lib.hid (RHF.out.chg c9)
          have RB9 := Lib.hid (RBF.out.chg c9)
          clear h9 c9 HF RHF RBF
          go_wp2
          go_roundw
          case rel => exact ⟨c + 1, hs, ([] : List Int), ph, ch, pb, cb, by omega, by go_num, by simp, by simp, H9.out, RH9.out, RB9.out⟩
          case measure => simp [intOf]; omega
        · obtain ⟨g, o, rfl, hy⟩ := RB.out.first
          have HY : Hid (∀ W, Chg (BX B X) wr W → W.cell? ⟨g, o, none⟩ = some (.int .i64 y)) := Lib.hid fun W hW => (hW.cell (p := ⟨g, o, none⟩) (RB.out.ap g rfl).2 (RB.out.ap g rfl).1).trans hy
          have hle := RB.out.le
          have hlen : (y :: bs).length = bs.length + 1 := by simp
          rw [hlen] at hle
          clear hlen
          have hyy : (y != y) = false := by simp
          have hmk : bs.length ≤ 1000000 := by
            obtain ⟨_, _, hr⟩ := HO.out.bx
            have := hr.len
            simp at this
            omega
          clear hy
          go_wp2_with fail
          refine (HO.out.btake (Nat.le_of_eq HS.out)).mono ?_
          rintro e w3 ⟨rfl, h3, c3⟩
          have HF := Lib.hid h3
          have RB3 := Lib.hid (RB.out.chg c3)
          have RHF := Lib.hid (RH.out.chg c3)
          have hy3 := HY.out w3 c3
          clear h3 c3 HO RH RB HY
          by_cases hcap : cb = 1
          · subst hcap
            obtain rfl : bs = [] := List.eq_nil_of_length_eq_zero (by omega)
            have RBF := Lib.hid RB3.out.last
            clear RB3
            obtain ⟨dk, hdk⟩ : ∃ dk, decide ((hs).length = k) = dk := ⟨_, rfl⟩
            have hfk : ((((hs).length : Nat) : Int) == (k : Int)) = dk := by rw [← hdk, Bool.eq_iff_iff]; simp; omega
            have hbb : (dk == dk) = true := by simp
            have hll := HF.out.len
            have hbl := HF.out.blen
            have hfl := HF.out.full (Nat.le_of_eq HS.out)
            rw [hdk] at hfl
            have HLL := Lib.hid hll
            have HBL := Lib.hid hbl
            have HFL := Lib.hid hfl
            clear hll hbl hfl hdk
            go_wp2_with fail
            refine HLL.out.mono ?_
            rintro e wa ⟨rfl, rfl⟩
            go_wp2_with fail
            refine HBL.out.mono ?_
            rintro e wa ⟨rfl, rfl⟩
            go_wp2_with fail
            refine HFL.out.mono ?_
            rintro e w9 ⟨rfl, h9, c9⟩
            have H9 := Lib.hid h9
            have RH9 := Lib.hid (RHF.out.chg c9)
            have RB9 := Lib.hid (RBF.out.chg c9)
            clear h9 c9 HF RHF RBF
            go_wp2
            go_roundw
            case rel => exact ⟨c + 1, hs, ([] : List Int), ph, ch, (some ⟨g, o, none⟩), 0, by omega, by go_num, by simp, by simp, H9.out, RH9.out, RB9.out⟩
            case measure => simp [intOf]; omega
          · have RBF := Lib.hid RB3.out.tail
            clear RB3
            obtain ⟨dk, hdk⟩ : ∃ dk, decide ((hs).length = k) = dk := ⟨_, rfl⟩
            have hfk : ((((hs).length : Nat) : Int) == (k : Int)) = dk := by rw [← hdk, Bool.eq_iff_iff]; simp; omega
            have hbb : (dk == dk) = true := by simp
            have hll := HF.out.len
            have hbl := HF.out.blen
            have hfl := HF.out.full (Nat.le_of_eq HS.out)
            rw [hdk] at hfl
            have HLL := Lib.hid hll
            have HBL := Lib.hid hbl
            have HFL := Lib.hid hfl
            clear hll hbl hfl hdk
            go_wp2_with fail
            refine HLL.out.mono ?_
            rintro e wa ⟨rfl, rfl⟩
            go_wp2_with fail
            refine HBL.out.mono ?_
            rintro e wa ⟨rfl, rfl⟩
            go_wp2_with fail
            refine HFL.out.mono ?_
            rintro e w9 ⟨rfl, h9, c9⟩
            have H9 := Lib.hid h9
            have RH9 := Lib.hid (RHF.out.chg c9)
            have RB9 := Lib.hid (RBF.out.chg c9)
            clear h9 c9 HF RHF RBF
            go_wp2
            go_roundw
            case rel => exact ⟨c + 1, hs, bs, ph, ch, (some ⟨g, o + 1, none⟩), (cb - 1), by omega, by go_num, by simp, by simp, H9.out, RH9.out, RB9.out⟩
            case measure => simp [intOf]; omega
      by_cases h1 : q = 1
      · subst h1
        go_wp2_with fail
        refine (HO.out.clear (Nat.le_of_eq HS.out)).mono ?_
        rintro e w3 ⟨rfl, h3, c3⟩
        have HF := Lib.hid h3
        have RBF := Lib.hid (RB.out.chg c3)
        have RHF := Lib.hid (RV.nil B X w3)
        clear h3 c3 HO RH RB
        have hdk : decide (([] : List Int).length = k) = false := by simp; omega
        have hll := HF.out.len
        have hbl := HF.out.blen
        have hfl := HF.out.full (Nat.le_of_eq HS.out)
        rw [hdk] at hfl
        have HLL := Lib.hid hll
        have HBL := Lib.hid hbl
        have HFL := Lib.hid hfl
        clear hll hbl hfl hdk
        go_wp2_with fail
        refine HLL.out.mono ?_
        rintro e wa ⟨rfl, rfl⟩
        go_wp2_with fail
        refine HBL.out.mono ?_
        rintro e wa ⟨rfl, rfl⟩
        go_wp2_with fail
        refine HFL.out.mono ?_
        rintro e w9 ⟨rfl, h9, c9⟩
        have H9 := Lib.hid h9
        have RH9 := Lib.hid (RHF.out.chg c9)
        have RB9 := Lib.hid (RBF.out.chg c9)
        clear h9 c9 HF RHF RBF
        go_wp2
        go_roundw
        case rel => exact ⟨c + 1, ([] : List Int), bs, none, 0, pb, cb, by omega, by go_num, by simp, by simp, H9.out, RH9.out, RB9.out⟩
        case measure => simp [intOf]; omega
      by_cases h2 : q = 2
      · subst h2
        rcases bs with _ | ⟨y, bs⟩
        · go_wp2_with fail
          refine (HO.out.hand (Nat.le_of_eq HS.out)).mono ?_
          rintro e w3 ⟨rfl, h3, c3⟩
          have HF := Lib.hid h3
          have RBF := Lib.hid (RH.out.chg c3)
          have RHF := Lib.hid (RV.nil B X w3)
          clear h3 c3 HO RH RB
          have hdk : decide (([] : List Int).length = k) = false := by simp; omega
          have hll := HF.out.len
          have hbl := HF.out.blen
          have hfl := HF.out.full (Nat.le_of_eq HS.out)
          rw [hdk] at hfl
          have HLL := Lib.hid hll
          have HBL := Lib.hid hbl
          have HFL := Lib.hid hfl
          clear hll hbl hfl hdk
          go_wp2_with fail
          refine HLL.out.mono ?_
          rintro e wa ⟨rfl, rfl⟩
          go_wp2_with fail
          refine HBL.out.mono ?_
          rintro e wa ⟨rfl, rfl⟩
          go_wp2_with fail
          refine HFL.out.mono ?_
          rintro e w9 ⟨rfl, h9, c9⟩
          have H9 := Lib.hid h9
          have RH9 := Lib.hid (RHF.out.chg c9)
          have RB9 := Lib.hid (RBF.out.chg c9)
          clear h9 c9 HF RHF RBF
          go_wp2
          go_roundw
          case rel => exact ⟨c + 1, ([] : List Int), hs, none, 0, ph, ch, by omega, by go_num, by simp, by simp, H9.out, RH9.out, RB9.out⟩
          case measure => simp [intOf]; omega
        · have hrun := hand_some (B := B) wr HO.out.bx
          have HR := Lib.hid hrun
          have hmk : bs.length ≤ 1000000 := by
            obtain ⟨_, _, hr⟩ := HO.out.bx
            have := hr.len
            simp at this
            omega
          clear hrun
          go_wp2_with fail
          refine HR.out.mono ?_
          rintro e w3 ⟨rfl, rfl⟩
          have HF := HO
          have RHF := RH
          have RBF := RB
          clear HO RH RB HR
          obtain ⟨dk, hdk⟩ : ∃ dk, decide ((hs).length = k) = dk := ⟨_, rfl⟩
          have hfk : ((((hs).length : Nat) : Int) == (k : Int)) = dk := by rw [← hdk, Bool.eq_iff_iff]; simp; omega
          have hbb : (dk == dk) = true := by simp
          have hll := HF.out.len
          have hbl := HF.out.blen
          have hfl := HF.out.full (Nat.le_of_eq HS.out)
          rw [hdk] at hfl
          have HLL := Lib.hid hll
          have HBL := Lib.hid hbl
          have HFL := Lib.hid hfl
          clear hll hbl hfl hdk
          go_wp2_with fail
          refine HLL.out.mono ?_
          rintro e wa ⟨rfl, rfl⟩
          go_wp2_with fail
          refine HBL.out.mono ?_
          rintro e wa ⟨rfl, rfl⟩
          go_wp2_with fail
          refine HFL.out.mono ?_
          rintro e w9 ⟨rfl, h9, c9⟩
          have H9 := Lib.hid h9
          have RH9 := Lib.hid (RHF.out.chg c9)
          have RB9 := Lib.hid (RBF.out.chg c9)
          clear h9 c9 HF RHF RBF
          go_wp2
          go_roundw
          case rel => exact ⟨c + 1, hs, (y :: bs), ph, ch, pb, cb, by omega, by go_num, by simp, by simp, H9.out, RH9.out, RB9.out⟩
          case measure => simp [intOf]; omega
      have hq0 : ((q : Int) == 0) = false := by simpa using h0
      have hq1 : ((q : Int) == 1) = false := by simp; omega
      have hq2 : ((q : Int) == 2) = false := by simp; omega
      have hq3 : ((q : Int) == 3) = false := by simp; omega
      by_cases hl : hs.length < k
      · have i3 : (hs.length : Int) < (k : Int) := by omega
        go_wp2_with fail
        refine (HO.out.add (Nat.le_of_eq HS.out) hl x).mono ?_
        rintro e w3 ⟨rfl, h3, c3⟩
        have H3 := Lib.hid h3
        have RH3 := Lib.hid (RH.out.chg c3)
        have RB3 := Lib.hid (RB.out.chg c3)
        have hd2 := (h3.bel.cell (p := ⟨b, _, none⟩) hbS).trans HW2.out
        have RC : Hid (∀ Y, Below w3.heap.size w3 Y → ∀ b, ph = some b → ∀ j u, (cellsZ hs)[j]? = some u → Y.cell? (b.add j) = some u) := Lib.hid fun _ h => rd_cells RH3.out.rd h
        have RN : Hid (ph = none → hs.length = 0 ∧ hs.length = 0) := Lib.hid (by rintro rfl; have := rd_nil RH3.out.rd; omega)
        have hcap := RH3.out.le
        clear h3 c3 HO RH RB
        go_wp2_with fail
        go_region_law (refine step_append_grows rfl (.tmp 72) (.tmp 78) 28 rfl 3 i0 (.int .i64 0) 1 8 Try.underlying28 hinf hz0 hz1 hz2 rfl (by decide) ph hs.length hs.length (cellsZ hs) (by simp [Act.eval]) RN.out (by rw [cellsZ_length]; simp) (RC.out _ ((below_drewN (Below.refl _ w3) 1).alloc (Nat.le_refl _) (.cells #[.int .i64 x] 3))) ⟨w3.heap.size, 0, none⟩ 1 1 [.int .i64 x] rfl rfl (one_at rfl) (by simp [Value.oneCell']) (by omega) (by unfold maxLen; omega) (by omega) ?_; intro v' w4 hown hgrow; obtain ⟨p', cap', rfl, hP, hb4⟩ := RH3.out.grown H3.out.bf.ltB H3.out.bx.ltX ((below_drewN (Below.refl _ w3) 1).alloc (Nat.le_refl _) (.cells #[.int .i64 x] 3)) hown hgrow; have RHF := Lib.hid hP; have HF := Lib.hid (H3.out.later (Nat.le_of_eq HS.out) hb4); have RBF := Lib.hid (RB3.out.chg (Chg.of_below hb4)); clear hown hgrow hP hb4)
        have e1 : (hs ++ [x]).length = hs.length + 1 := by simp
        clear H3 RH3 RB3 RC RN hcap hd2
        generalize hz : hs.length + 1 = z at *
        have E1 := Lib.hid e1
        clear e1 hz
        obtain ⟨dk, hdk⟩ : ∃ dk, decide (((hs ++ [x])).length = k) = dk := ⟨_, rfl⟩
        have hfk : (((z : Nat) : Int) == (k : Int)) = dk := by rw [← hdk, E1.out, Bool.eq_iff_iff]; simp; omega
        have hbb : (dk == dk) = true := by simp
        have hll := HF.out.len
        have hbl := HF.out.blen
        have hfl := HF.out.full (Nat.le_of_eq HS.out)
        rw [hdk] at hfl
        rw [E1.out] at hll
        have HLL := Lib.hid hll
        have HBL := Lib.hid hbl
        have HFL := Lib.hid hfl
        clear hll hbl hfl hdk
        go_wp2_with fail
        refine HLL.out.mono ?_
        rintro e wa ⟨rfl, rfl⟩
        go_wp2_with fail
        refine HBL.out.mono ?_
        rintro e wa ⟨rfl, rfl⟩
        go_wp2_with fail
        refine HFL.out.mono ?_
        rintro e w9 ⟨rfl, h9, c9⟩
        have H9 := Lib.hid h9
        have RH9 := Lib.hid (RHF.out.chg c9)
        have RB9 := Lib.hid (RBF.out.chg c9)
        clear h9 c9 HF RHF RBF
        go_wp2
        go_roundw
        case rel => exact ⟨c + 1, (hs ++ [x]), bs, p', cap', pb, cb, by omega, by go_num, by rw [E1.out], by simp, H9.out, RH9.out, RB9.out⟩
        case measure => simp [intOf]; omega
      · have i3 : ¬ (hs.length : Int) < (k : Int) := by omega
        go_wp2_with fail
        refine (HO.out.no (Nat.le_of_eq HS.out) (by omega) x).mono ?_
        rintro e w3 ⟨rfl, h3, c3⟩
        have HF := Lib.hid h3
        have RHF := Lib.hid (RH.out.chg c3)
        have RBF := Lib.hid (RB.out.chg c3)
        clear h3 c3 HO RH RB
        obtain ⟨dk, hdk⟩ : ∃ dk, decide ((hs).length = k) = dk := ⟨_, rfl⟩
        have hfk : ((((hs).length : Nat) : Int) == (k : Int)) = dk := by rw [← hdk, Bool.eq_iff_iff]; simp; omega
        have hbb : (dk == dk) = true := by simp
        have hll := HF.out.len
        have hbl := HF.out.blen
        have hfl := HF.out.full (Nat.le_of_eq HS.out)
        rw [hdk] at hfl
        have HLL := Lib.hid hll
        have HBL := Lib.hid hbl
        have HFL := Lib.hid hfl
        clear hll hbl hfl hdk
        go_wp2_with fail
        refine HLL.out.mono ?_
        rintro e wa ⟨rfl, rfl⟩
        go_wp2_with fail
        refine HBL.out.mono ?_
        rintro e wa ⟨rfl, rfl⟩
        go_wp2_with fail
        refine HFL.out.mono ?_
        rintro e w9 ⟨rfl, h9, c9⟩
        have H9 := Lib.hid h9
        have RH9 := Lib.hid (RHF.out.chg c9)
        have RB9 := Lib.hid (RBF.out.chg c9)
        clear h9 c9 HF RHF RBF
        go_wp2
        go_roundw
        case rel => exact ⟨c + 1, hs, bs, ph, ch, pb, cb, by omega, by go_num, by simp, by simp, H9.out, RH9.out, RB9.out⟩
        case measure => simp [intOf]; omega
    · go_wp2_with fail
      refine (all_any wr HO.out.bf).mono ?_
      rintro e w3 ⟨p', cap', rfl, hrd, hb3⟩
      have HR := Lib.hid hrd
      have HT3 := Lib.hid (HO.out.later (Nat.le_of_eq HS.out) hb3)
      have RH3 := Lib.hid (RH.out.rd.later hb3)
      clear hrd hb3 HO RH RB
      go_wp2_with fail
      refine (same_any p' ph cap' ch hs w3 HR.out RH3.out (by omega)).mono ?_
      rintro e w4 ⟨rfl, qn, rfl⟩
      have HB3 : Hid (Below w.heap.size w (w3.drewN qn)) := Lib.hid (below_drewN (HS.out ▸ HT3.out.bel) qn)
      go_wp2_with fail
      refine (awake_any _).mono ?_
      rintro e w5 ⟨rfl, hb5⟩
      have HB5 := Lib.hid hb5
      clear hb5
      go_wp2
      go_ret
      exact ⟨rfl, HB3.out.trans (HB5.out.mono HB3.out.size)⟩
end Go.Proofs.Ytfiaajlagkfkjaa.Lg
