/-
  op: Bare, Line, byName, Parse$1.
-/
import Derived.Test.YtenjllknianieaaDoorOpC
namespace Go.Proofs.YtenjllknianieaaDoor.Opr
open Go.RowKit

/-- What an operation of three numbers has at a place. -/
def numAt (a b c : Int) (p : Nat) : Int := match p with | 0 => a | 1 => b | _ => c

set_option maxHeartbeats 1000000 in
theorem bareT_any (bx N : Nat) (u : Nat) (a b c : Int) (w : World) (hu : u ≤ 3) (hbx : w.cell? ⟨bx, 0, none⟩ = some (.slice (some ⟨N, 0, none⟩) u 3))
    (h0 : w.cell? ⟨N, 0, none⟩ = some (.int .i64 a)) (h1 : w.cell? ⟨N, 1, none⟩ = some (.int .i64 b)) (h2 : w.cell? ⟨N, 2, none⟩ = some (.int .i64 c)) :
    TellsB 50 ⟨bx, 0, none⟩ u (numAt a b c) w.heap.size w := by
  intro p W hp hW
  have q0 := (hW.cell (p := ⟨bx, 0, none⟩) (lt_of_cell hbx)).trans hbx
  have q1 := (hW.cell (p := ⟨N, 0, none⟩) (lt_of_cell h0)).trans h0
  have q2 := (hW.cell (p := ⟨N, 1, none⟩) (lt_of_cell h1)).trans h1
  have q3 := (hW.cell (p := ⟨N, 2, none⟩) (lt_of_cell h2)).trans h2
  have hc : W.cell? ⟨N, p, none⟩ = some (.int .i64 (numAt a b c p)) := by
    have h3 : p = 0 ∨ p = 1 ∨ p = 2 := by omega
    rcases h3 with rfl | rfl | rfl <;> assumption
  clear q1 q2 q3 h0 h1 h2 hbx
  have p0 : (0 : Int) ≤ (p : Int) := by omega
  have pu : (p : Int) < (u : Int) := by omega
  have p3 : (p : Int) < 3 := by omega
  go_enter Tryd.func50, Tryd.ntmps50
  go_wp2
  go_ret
  exact ⟨rfl, Below.refl _ _⟩

/-- An operation without what it doesn't use. -/
def bareV (k a b c : Int) : Value := if isK k then opV k (pk (usesI k) (numAt a b c) 0) (pk (usesI k) (numAt a b c) 1) (pk (usesI k) (numAt a b c) 2) else opV 0 0 0 0
theorem bareV_yes {k a b c : Int} (h : isK k = true) : bareV k a b c = opV k (pk (usesI k) (numAt a b c) 0) (pk (usesI k) (numAt a b c) 1) (pk (usesI k) (numAt a b c) 2) := if_pos h
theorem bareV_no {k a b c : Int} (h : isK k = false) : bareV k a b c = opV 0 0 0 0 := if_neg (by rw [h]; exact Bool.false_ne_true)

set_option maxRecDepth 100000 in
set_option maxHeartbeats 2000000 in
theorem bare_any (k a b c : Int) (w : World) (ht : FormTab w) :
    Calls Tryd.prog 20 #[.agg #[.int .i64 k, .int .i64 a, .int .i64 b, .int .i64 c]] w fun e w' => e = .returned (bareV k a b c) ∧ Below w.heap.size w w' := by
  have HT := Lib.hid ht
  clear ht
  have hA : Below w.heap.size w ((w.alloc (.cells #[.int .i64 k, .int .i64 a, .int .i64 b, .int .i64 c] 23)).alloc (.cells #[.int .i64 0, .int .i64 0, .int .i64 0, .int .i64 0] 23)) := ((Below.refl _ _).alloc (Nat.le_refl _) _).alloc (by simp) _
  have HA := Lib.hid hA
  clear hA
  cases h : isK k with
  | false =>
    rw [bareV_no h]
    go_enter Tryd.func20, Tryd.ntmps20
    go_wp2_with (go_at_call 46; refine (is_any _ _).mono ?_; rw [h]; rintro e w' ⟨rfl, rfl⟩)
    exact bodyPost_ret (v := opV 0 0 0 0) (by simp [results, Tryd.results20, go_sem, opV]) rfl ⟨rfl, HA.out⟩
  | true =>
    rw [bareV_yes h]
    have hu := usesI_le k
    go_enter Tryd.func20, Tryd.ntmps20
    go_wp2_with (first
      | (go_at_call 46; refine (is_any _ _).mono ?_; rw [h]; rintro e w' ⟨rfl, rfl⟩)
      | (go_at_call 47; fail))
    refine (numbers_any k a b c _ (HT.out.later HA.out)).mono ?_
    rintro e w1 ⟨N, hN, rfl, n0, n1, n2, hb1⟩
    have HB1 := Lib.hid hb1
    have hs1 := hb1.size
    simp only [World.size_alloc] at hs1
    have hlt1 : w.heap.size < w1.heap.size := by omega
    have hlt2 : w.heap.size + 1 < w1.heap.size := by omega
    have hk1 : w1.cell? ⟨w.heap.size, 0, none⟩ = some (.int .i64 k) := (hb1.cell (p := ⟨w.heap.size, 0, none⟩) (by simp; omega)).trans (by simp)
    have hr : ∀ j, j < 4 → w1.cell? ⟨w.heap.size + 1, j, none⟩ = some (.int .i64 0) ∧ w1.frozen? ⟨w.heap.size + 1, j, none⟩ = false := by
      intro j hj
      have h4 : j = 0 ∨ j = 1 ∨ j = 2 ∨ j = 3 := by omega
      refine ⟨(hb1.cell (p := ⟨w.heap.size + 1, j, none⟩) (by simp)).trans ?_, (hb1.frozen (p := ⟨w.heap.size + 1, j, none⟩) (by simp)).trans (by simp)⟩
      rcases h4 with rfl | rfl | rfl | rfl <;> simp
    have HRZ : Hid (∀ W, Below w1.heap.size w1 W → ∀ j, j < 4 → W.cell? ⟨w.heap.size + 1, j, none⟩ = some (.int .i64 0) ∧ W.frozen? ⟨w.heap.size + 1, j, none⟩ = false) := Lib.hid fun W hW j hj =>
      ⟨(hW.cell (p := ⟨w.heap.size + 1, j, none⟩) (by show w.heap.size + 1 < w1.heap.size; omega)).trans (hr j hj).1, (hW.frozen (p := ⟨w.heap.size + 1, j, none⟩) (by show w.heap.size + 1 < w1.heap.size; omega)).trans (hr j hj).2⟩
    have HTL : Hid (∀ (W : World), W = w1.alloc (.cells #[.slice (some ⟨N, 0, none⟩) (usesI k) 3] 55) → TellsB 50 ⟨w1.heap.size, 0, none⟩ (usesI k) (numAt a b c) W.heap.size W ∧ FormTab W ∧ Below w1.heap.size w1 W) := Lib.hid (by
      rintro W rfl
      have hb2 : Below w1.heap.size w1 (w1.alloc (.cells #[.slice (some ⟨N, 0, none⟩) (usesI k) 3] 55)) := (Below.refl _ _).alloc (Nat.le_refl _) _
      exact ⟨bareT_any _ N _ a b c _ hu (by simp) ((hb2.cell (p := ⟨N, 0, none⟩) (lt_of_cell n0)).trans n0) ((hb2.cell (p := ⟨N, 1, none⟩) (lt_of_cell n1)).trans n1) ((hb2.cell (p := ⟨N, 2, none⟩) (lt_of_cell n2)).trans n2), ((HT.out.later HA.out).later hb1).later hb2, hb2⟩)
    clear hb1 n0 n1 n2 hr
    go_wp2_with (go_at_call 49; fail)
    refine (toldB_any ⟨w1.heap.size, 0, none⟩ k (numAt a b c) _ (HTL.out _ rfl).2.1 (HTL.out _ rfl).1).mono ?_
    rintro e w3 ⟨rfl, hb3⟩
    have HB3 := Lib.hid ((HTL.out _ rfl).2.2.trans (hb3.mono (HTL.out _ rfl).2.2.size))
    clear hb3
    obtain ⟨r0, f0⟩ := HRZ.out _ HB3.out 0 (by omega)
    obtain ⟨r1, f1⟩ := HRZ.out _ HB3.out 1 (by omega)
    obtain ⟨r2, f2⟩ := HRZ.out _ HB3.out 2 (by omega)
    obtain ⟨r3, f3⟩ := HRZ.out _ HB3.out 3 (by omega)
    unfold opV
    go_wp2_with fail
    exact bodyPost_ret (v := opV k (pk (usesI k) (numAt a b c) 0) (pk (usesI k) (numAt a b c) 1) (pk (usesI k) (numAt a b c) 2)) (by simp [results, Tryd.results20, go_sem, opV, r0, r1, r2, r3]) rfl
      ⟨rfl, ((((HA.out.trans ((HB1.out.trans (HB3.out.mono HB1.out.size)).mono HA.out.size)).setCell (by simp) _).setCell (by simp) _).setCell (by simp) _).setCell (by simp) _⟩

theorem bs_append (l m : List UInt8) : bs l ++ bs m = bs (l ++ m) := by
  apply ByteArray.ext
  apply Array.ext'
  simp [bs, ByteArray.data_append]
theorem joinT_snoc (l : List (List UInt8)) (x : List UInt8) : joinT (l ++ [x]) = joinT l ++ (32 :: x) := by
  induction l with
  | nil => simp [joinT]
  | cons a l ih => simp [joinT, ih]
/-- The line behind so many numbers. -/
def lineP (n : Nat) (a b c : Int) (p : Nat) : List UInt8 := wordK n ++ joinT (((List.range p).map (numAt a b c)).map Lib.itoa)
theorem lineP_next (n : Nat) (a b c : Int) (p : Nat) : lineP n a b c (p + 1) = lineP n a b c p ++ (32 :: Lib.itoa (numAt a b c p)) := by
  unfold lineP
  rw [List.range_succ, List.map_append, List.map_append]
  simp only [List.map_cons, List.map_nil]
  rw [joinT_snoc, List.append_assoc]
theorem lineP_all {n : Nat} (_h : n < 9) (a b c : Int) : lineP n a b c (usesK n) = lineK n a b c := by
  unfold lineP lineK joinW numsK
  rcases uses_cases n with hu | hu | hu | hu <;> rw [hu] <;> rfl
theorem bs_size (l : List UInt8) : (bs l).size = l.length := by simp [bs, ByteArray.size]
theorem itoa_len {n : Int} (h : inI n) : (Lib.itoa n).length ≤ 20 := by
  unfold inI at h
  unfold Lib.itoa
  split
  · have := dec_len (u := n.natAbs) (by omega)
    rw [List.length_cons]; omega
  · have := dec_len (u := n.toNat) (by omega)
    omega
theorem word_len (n : Nat) : (wordK n).length ≤ 5 := by unfold wordK; split <;> simp
theorem lineP_len (n : Nat) {a b c : Int} (ha : inI a) (hb : inI b) (hc : inI c) : ∀ p, (lineP n a b c p).length ≤ 5 + 21 * p
  | 0 => by unfold lineP; have := word_len n; simp [joinT]; omega
  | p + 1 => by
    rw [lineP_next, List.length_append, List.length_cons]
    have h1 := lineP_len n ha hb hc p
    have h2 := itoa_len (show inI (numAt a b c p) by unfold numAt; split <;> assumption)
    omega
def lineI (k a b c : Int) : List UInt8 := if isK k then lineK k.toNat a b c else []
theorem numAt_in {a b c : Int} (ha : inI a) (hb : inI b) (hc : inI c) (p : Nat) : inI (numAt a b c p) := by unfold numAt; split <;> assumption

set_option maxRecDepth 100000 in
set_option maxHeartbeats 2000000 in
theorem line_any (k a b c : Int) (ha : inI a) (hb : inI b) (hc : inI c) (w : World) (ht : FormTab w) (hl : LibTab w) :
    Calls Tryd.prog 14 #[.agg #[.int .i64 k, .int .i64 a, .int .i64 b, .int .i64 c]] w fun e w' => e = .returned (.tuple #[.string (bs (lineI k a b c)), .int .i64 (if isK k = true then 0 else 1)]) ∧ Below w.heap.size w w' := by
  have HT := Lib.hid ht
  have HL := Lib.hid hl
  clear ht hl
  have hA : Below w.heap.size w (w.alloc (.cells #[.int .i64 k, .int .i64 a, .int .i64 b, .int .i64 c] 23)) := (Below.refl _ _).alloc (Nat.le_refl _) _
  have HA := Lib.hid hA
  clear hA
  cases h : isK k with
  | false =>
    have e : lineI k a b c = [] := by unfold lineI; rw [h]; rfl
    rw [e]
    go_enter Tryd.func14, Tryd.ntmps14
    go_wp2_with (go_at_call 46; refine (is_any _ _).mono ?_; rw [h]; rintro e w' ⟨rfl, rfl⟩)
    go_ret2
    exact ⟨rfl, HA.out⟩
  | true =>
    have e : lineI k a b c = lineK k.toNat a b c := by unfold lineI; rw [h]; rfl
    rw [e]
    obtain ⟨n, rfl, n1, n8⟩ := isK_nat h
    have hw := HT.out.word n (by omega)
    have eu : usesI (n : Int) = usesK n := by unfold usesI; rw [h]; rfl
    have en : ((n : Int)).toNat = n := by simp
    rw [en]
    have hgl : 0 < w.heap.size := HT.out.blk
    have i0 : (0 : Int) ≤ (n : Int) := by omega
    have i9 : (n : Int) < 9 := by omega
    go_enter Tryd.func14, Tryd.ntmps14
    go_wp2_with (first
      | (go_at_call 46; refine (is_any _ _).mono ?_; rw [h]; rintro e w' ⟨rfl, rfl⟩)
      | (go_at_call 47; fail))
    refine (numbers_any n a b c _ (HT.out.later HA.out)).mono ?_
    rintro e w1 ⟨N, hN, rfl, m0, m1, m2, hb1⟩
    rw [eu]
    have HB1 := Lib.hid (HA.out.trans (hb1.mono HA.out.size))
    have hu : usesK n ≤ 3 := by rcases uses_cases n with hu | hu | hu | hu <;> omega
    have HN : Hid (∀ p, p < 3 → w1.cell? ⟨N, p, none⟩ = some (.int .i64 (numAt a b c p))) := Lib.hid (by
      intro p hp
      have h3 : p = 0 ∨ p = 1 ∨ p = 2 := by omega
      rcases h3 with rfl | rfl | rfl <;> assumption)
    have hlN : N < w1.heap.size := lt_of_cell m0
    have HP : Hid (lineP n a b c (usesK n) = lineK n a b c) := Lib.hid (lineP_all (by omega) a b c)
    clear hb1 m0 m1 m2 en e eu
    have hp0 : bs (wordK n) = bs (lineP n a b c 0) := by unfold lineP; simp [joinT]
    rw [hp0]
    generalize hU : usesK n = u at *
    clear hU
    go_wp2_with fail
    go_loopw [4, 19] (fun l i wr => ∃ p : Nat, p ≤ u ∧ i = .int .i64 p ∧ l = .string (bs (lineP n a b c p)) ∧ Below w1.heap.size w1 wr) (fun _ i _ => 3 - (intOf i).toNat)
    case atStart => exact ⟨0, by omega, rfl, rfl, Below.refl _ _⟩
    case round =>
      obtain ⟨p, hp, rfl, rfl, hb'⟩ := hrel
      have HB := Lib.hid hb'
      have p0 : (0 : Int) ≤ (p : Int) := by omega
      by_cases hlt : p < u
      · have pu : (p : Int) < (u : Int) := by omega
        have hcp := (hb'.cell (p := ⟨N, p, none⟩) hlN).trans (HN.out p (by omega))
        clear hb'
        have z1 : (bs (Lib.itoa (numAt a b c p))).size ≤ 20 := by rw [bs_size]; exact itoa_len (numAt_in ha hb hc p)
        have z2 : (bs (lineP n a b c p)).size ≤ 100 := by rw [bs_size]; have := lineP_len n ha hb hc p; omega
        have z3 : (⟨#[32]⟩ : ByteArray).size = 1 := rfl
        have HLR := Lib.hid ((HL.out.later HB1.out).later HB.out)
        go_wp2_with (go_at_call 48; refine (itoa_any _ (numAt_in ha hb hc p) _ HLR.out).mono ?_; rintro e w3 ⟨rfl, hb3⟩; have HB3 := Lib.hid hb3; clear hb3)
        go_roundw
        case rel => exact ⟨p + 1, by omega, by go_num, by rw [lineP_next, show (32 :: Lib.itoa (numAt a b c p)) = [32] ++ Lib.itoa (numAt a b c p) from rfl, ← bs_append, ← bs_append]; rfl, HB.out.trans (HB3.out.mono HB.out.size)⟩
        case measure => simp [intOf]; omega
      · obtain rfl : p = u := by omega
        clear hb'
        go_wp2
        go_ret2
        exact ⟨by rw [HP.out]; rfl, HB1.out.trans (HB.out.mono HB1.out.size)⟩
end Go.Proofs.YtenjllknianieaaDoor.Opr
