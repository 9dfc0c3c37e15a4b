/-
  OpLines answers true.
-/
import Derived.Test.YtenjllknianieaaDoorOpJ
import Derived.Test.YtenjllknianieaaDoorOpQ
namespace Go.Proofs.YtenjllknianieaaDoor.Opr
open Go.RowKit

/-- The document's line behind so many numbers. -/
def lineQ (k a b c : Int) (p : Nat) : List UInt8 := wordI k ++ joinT (((List.range p).map (numAt a b c)).map Lib.itoa)
theorem lineQ_next (k a b c : Int) (p : Nat) : lineQ k a b c (p + 1) = lineQ k a b c p ++ (32 :: Lib.itoa (numAt a b c p)) := by
  unfold lineQ
  rw [List.range_succ, List.map_append, List.map_append]
  simp only [List.map_cons, List.map_nil]
  rw [joinT_snoc, List.append_assoc]
theorem lineQ_all (k a b c : Int) : lineQ k a b c (usesI k) = lineI k a b c := by
  cases h : isK k with
  | false => simp [lineQ, lineI, wordI, usesI, h, joinT]
  | true =>
    obtain ⟨n, rfl, n1, n8⟩ := isK_nat h
    have := lineP_all (show n < 9 by omega) a b c
    unfold lineP at this
    simp [lineQ, lineI, wordI, usesI, h] at this ⊢
    exact this
theorem wordI_len (k : Int) : (wordI k).length ≤ 5 := by
  unfold wordI
  split
  · exact word_len _
  · simp
theorem lineQ_len (k : Int) {a b c : Int} (ha : inI a) (hb : inI b) (hc : inI c) : ∀ p, (lineQ k a b c p).length ≤ 5 + 21 * p
  | 0 => by unfold lineQ; have := wordI_len k; simp [joinT]; omega
  | p + 1 => by
    rw [lineQ_next, List.length_append, List.length_cons]
    have h1 := lineQ_len k ha hb hc p
    have h2 := itoa_len (numAt_in ha hb hc p)
    omega

set_option maxRecDepth 100000 in
set_option maxHeartbeats 2000000 in
theorem refline_any (k a b c : Int) (ha : inI a) (hb : inI b) (hc : inI c) (w : World) :
    Calls Tryd.prog 23 #[.agg #[.int .i64 k, .int .i64 a, .int .i64 b, .int .i64 c]] w fun e w' => e = .returned (.string (bs (lineI k a b c))) ∧ Below w.heap.size w w' := by
  have HU := Lib.hid (refuses_any k)
  have HW := Lib.hid (refword_any k)
  have hu := usesI_le k
  have HQ := Lib.hid (lineQ_all k a b c)
  have hA : Below w.heap.size w ((w.alloc (.cells #[.int .i64 k, .int .i64 a, .int .i64 b, .int .i64 c] 23)).alloc (.cells #[.int .i64 a, .int .i64 b, .int .i64 c] 3)) := ((Below.refl _ _).alloc (Nat.le_refl _) _).alloc (by simp) _
  have hq0 : bs (wordI k) = bs (lineQ k a b c 0) := by unfold lineQ; simp [joinT]
  generalize usesI k = u at *
  obtain ⟨w2, hw2⟩ : ∃ w2, (w.alloc (.cells #[.int .i64 k, .int .i64 a, .int .i64 b, .int .i64 c] 23)).alloc (.cells #[.int .i64 a, .int .i64 b, .int .i64 c] 3) = w2 := ⟨_, rfl⟩
  rw [hw2] at hA
  have HA := Lib.hid hA
  clear hA
  have HC : Hid (CellsAt w2 w.heap.size [.int .i64 k, .int .i64 a, .int .i64 b, .int .i64 c] ∧ ∀ p, p < 3 → w2.cell? ⟨w.heap.size + 1, p, none⟩ = some (.int .i64 (numAt a b c p))) := Lib.hid (by
    rw [← hw2]
    refine ⟨(CellsAt.new _ _ _).later ((Below.refl _ _).alloc (Nat.le_refl _) _), fun p hp => ?_⟩
    have h3 : p = 0 ∨ p = 1 ∨ p = 2 := by omega
    rcases h3 with rfl | rfl | rfl <;> simp [numAt])
  go_enter Tryd.func23, Tryd.ntmps23
  go_wp2_with (go_at_call 17; refine (HW.out _).mono ?_; rintro e w' ⟨rfl, hw'⟩; rw [hw'])
  clear hw' hw2 w'
  go_loopw [3, 5] (fun s i wr => ∃ p : Nat, p ≤ u ∧ i = .int .i64 p ∧ s = .string (bs (lineQ k a b c p)) ∧ Below w2.heap.size w2 wr) (fun _ i _ => 3 - (intOf i).toNat)
  case atStart => exact ⟨0, by omega, rfl, rfl, Below.refl _ _⟩
  case round =>
    obtain ⟨p, hp, rfl, rfl, hb'⟩ := hrel
    have HB := Lib.hid hb'
    have o0 := (HC.out.1.later hb') 0 _ rfl
    have p0 : (0 : Int) ≤ (p : Int) := by omega
    by_cases hlt : p < u
    · have pu : (p : Int) < (u : Int) := by omega
      have hcp := (hb'.cell (p := ⟨w.heap.size + 1, p, none⟩) (lt_of_cell (HC.out.2 p (by omega)))).trans (HC.out.2 p (by omega))
      have p3 : (p : Int) < 3 := by omega
      clear hb'
      have z1 : (bs (Lib.itoa (numAt a b c p))).size ≤ 20 := by rw [bs_size]; exact itoa_len (numAt_in ha hb hc p)
      have z2 : (bs (lineQ k a b c p)).size ≤ 100 := by rw [bs_size]; have := lineQ_len k ha hb hc p; omega
      have z3 : (⟨#[32]⟩ : ByteArray).size = 1 := rfl
      go_wp2_with (first
        | (go_at_call 19; refine (HU.out _).mono ?_; rintro e w9 ⟨rfl, hw9⟩; obtain rfl : wr = w9 := hw9.symm)
        | (go_at_call 55; refine (refint_any _ (numAt_in ha hb hc p) _).mono ?_; rintro e w3 ⟨rfl, hb3⟩; have HB3 := Lib.hid hb3; clear hb3))
      go_roundw
      case rel => exact ⟨p + 1, by omega, by go_num, by rw [lineQ_next, show (32 :: Lib.itoa (numAt a b c p)) = [32] ++ Lib.itoa (numAt a b c p) from rfl, ← List.append_assoc, ← bs_append, ← bs_append]; rfl, HB.out.trans (HB3.out.mono HB.out.size)⟩
      case measure => simp [intOf]; omega
    · obtain rfl : p = u := by omega
      clear hb'
      go_wp2_with (go_at_call 19; refine (HU.out _).mono ?_; rintro e w9 ⟨rfl, hw9⟩; obtain rfl : wr = w9 := hw9.symm)
      go_ret
      exact ⟨by rw [HQ.out]; rfl, HA.out.trans (HB.out.mono HA.out.size)⟩

theorem line_bare {k a x c K A X C : Int} (hk : isK k = true) (hK : bK k = K) (hA : bN k (numAt a x c) 0 = A) (hX : bN k (numAt a x c) 1 = X) (hC : bN k (numAt a x c) 2 = C) : lineI k a x c = lineI K A X C := by
  have e : bK k = k := by unfold bK; rw [hk]; rfl
  rw [← hK, e, ← hA, ← hX, ← hC]
  refine line_congr (fun p hp => ?_)
  have := usesI_le k
  rw [numAt_three _ (by omega), bN_used hk hp]
theorem parse_line {k a x c K A X C : Int} (ha : inI a) (hx : inI x) (hc : inI c) (hk : isK k = true) (hK : bK k = K) (hA : bN k (numAt a x c) 0 = A) (hX : bN k (numAt a x c) 1 = X) (hC : bN k (numAt a x c) 2 = C) {e : Ending} (h : ParseB (bs (lineI k a x c)) e) :
    e = .returned (.tuple #[opV K A X C, .int .i64 0]) := by
  rw [line_bare hk hK hA hX hC] at h
  have e1 : bK k = k := by unfold bK; rw [hk]; rfl
  obtain ⟨n, rfl, n1, n8⟩ := isK_nat hk
  have eu : usesI (n : Int) = usesK n := by unfold usesI; rw [hk]; rfl
  have eb : ∀ p, bN (n : Int) (numAt a x c) p = pk (usesK n) (numAt a x c) p := fun p => by unfold bN; rw [hk, if_pos rfl, eu]
  rw [eb] at hA hX hC
  obtain rfl : (n : Int) = K := e1.symm.trans hK
  have hB : BareK n A X C := by
    rw [← hA, ← hX, ← hC]
    exact pk_bare n1 n8 (fun p => numAt_in ha hx hc p)
  have hl : lineI (n : Int) A X C = lineK n A X C := by unfold lineI; rw [hk]; simp
  rw [hl] at h
  rcases h with ⟨k', a', b', c', h1, h2, h3⟩ | ⟨_, h2⟩
  · obtain ⟨rfl, rfl, rfl, rfl⟩ := line_inj hB h1 (bs_inj h2)
    exact h3
  · exact absurd rfl (h2 n A X C hB)
theorem lineI_len (k : Int) {a b c : Int} (ha : inI a) (hb : inI b) (hc : inI c) : (lineI k a b c).length ≤ 68 := by
  rw [← lineQ_all]
  have h1 := lineQ_len k ha hb hc (usesI k)
  have h2 := usesI_le k
  omega

set_option maxRecDepth 200000 in
set_option maxHeartbeats 8000000 in
theorem lines_walk (k a x c : Int) (ha : inI a) (hx : inI x) (hc : inI c) (w : World) (ht : FormTab w) (hl : LibTab w) (hm : LimTab w) :
    Calls Tryd.prog 3 #[.agg #[.int .i64 k, .int .i64 a, .int .i64 x, .int .i64 c]] w
      fun e w' => e = .returned (.bool true) ∧ Below w.heap.size w w' := by
  have HT := Lib.hid ht
  have HL := Lib.hid hl
  have HM := Lib.hid hm
  clear ht hl hm
  have HIN : Hid (inI a ∧ inI x ∧ inI c) := Lib.hid ⟨ha, hx, hc⟩
  obtain ⟨w0, hw0⟩ : ∃ w0, w.alloc (.cells #[.int .i64 k, .int .i64 a, .int .i64 x, .int .i64 c] 23) = w0 := ⟨_, rfl⟩
  have HA : Hid (Below w.heap.size w w0) := Lib.hid (by rw [← hw0]; exact (Below.refl _ _).alloc (Nat.le_refl _) _)
  have HC0 : Hid (CellsAt w0 w.heap.size [.int .i64 k, .int .i64 a, .int .i64 x, .int .i64 c]) := Lib.hid (by rw [← hw0]; exact CellsAt.new _ _ _)
  have HAW : Hid (∀ W, Below w.heap.size w W → Calls Tryd.prog 21 #[] W fun e w' => e = .returned (.bool true) ∧ Below W.heap.size W w') := Lib.hid fun W hW => awake_any W (HT.out.later hW) (HL.out.later hW) (HM.out.later hW)
  obtain ⟨K, hK⟩ : ∃ K, bK k = K := ⟨_, rfl⟩
  obtain ⟨A, hA⟩ : ∃ A, bN k (numAt a x c) 0 = A := ⟨_, rfl⟩
  obtain ⟨X, hX⟩ : ∃ X, bN k (numAt a x c) 1 = X := ⟨_, rfl⟩
  obtain ⟨C, hC⟩ : ∃ C, bN k (numAt a x c) 2 = C := ⟨_, rfl⟩
  have hb1 : bareV k a x c = opV K A X C := by rw [bareV_eq, hK, hA, hX, hC]
  have HPL : Hid (isK k = true → ∀ e, ParseB (bs (lineI k a x c)) e → e = .returned (.tuple #[opV K A X C, .int .i64 0])) := Lib.hid fun hk e h => parse_line ha hx hc hk hK hA hX hC h
  have HSZ : Hid ((bs (lineI k a x c)).size < 4294967281) := Lib.hid (by rw [bs_size]; have := lineI_len k ha hx hc; omega)
  have HBA : Hid (∀ W, Below w.heap.size w W → Calls Tryd.prog 20 #[.agg #[.int .i64 k, .int .i64 a, .int .i64 x, .int .i64 c]] W fun e w' => e = .returned (.agg #[.int .i64 K, .int .i64 A, .int .i64 X, .int .i64 C]) ∧ Below W.heap.size W w') := Lib.hid fun W hW => by
    have := bare_any k a x c W (HT.out.later hW)
    rw [hb1] at this; exact this
  have HRB : Hid (∀ W, Calls Tryd.prog 15 #[.agg #[.int .i64 k, .int .i64 a, .int .i64 x, .int .i64 c]] W fun e w' => e = .returned (.agg #[.int .i64 K, .int .i64 A, .int .i64 X, .int .i64 C]) ∧ Below W.heap.size W w') := Lib.hid fun W => by
    have := refbare_any k a x c W
    rw [hb1] at this; exact this
  have HNM : Hid (∀ W, Below w.heap.size w W → Calls Tryd.prog 16 #[.int .i64 k] W fun e w' => e = .returned (.string (bs (wordI k))) ∧ Below W.heap.size W w') := Lib.hid fun W hW => (name_any k W (HT.out.later hW)).mono fun e w' h => ⟨h.1, by rw [h.2]; exact Below.refl _ _⟩
  have HUS : Hid (∀ W, Below w.heap.size w W → Calls Tryd.prog 18 #[.int .i64 k] W fun e w' => e = .returned (.int .i64 (usesI k)) ∧ Below W.heap.size W w') := Lib.hid fun W hW => (uses_any k W (HT.out.later hW)).mono fun e w' h => ⟨h.1, by rw [h.2]; exact Below.refl _ _⟩
  have HRW : Hid (∀ W, Calls Tryd.prog 17 #[.int .i64 k] W fun e w' => e = .returned (.string (bs (wordI k))) ∧ Below W.heap.size W w') := Lib.hid fun W => (refword_any k W).mono fun e w' h => ⟨h.1, by rw [h.2]; exact Below.refl _ _⟩
  have HRW2 := Lib.hid (refword_any k)
  have HRU : Hid (∀ W, Calls Tryd.prog 19 #[.int .i64 k] W fun e w' => e = .returned (.int .i64 (usesI k)) ∧ Below W.heap.size W w') := Lib.hid fun W => (refuses_any k W).mono fun e w' h => ⟨h.1, by rw [h.2]; exact Below.refl _ _⟩
  have HRL : Hid (∀ W, Calls Tryd.prog 23 #[.agg #[.int .i64 k, .int .i64 a, .int .i64 x, .int .i64 c]] W fun e w' => e = .returned (.string (bs (lineI k a x c))) ∧ Below W.heap.size W w') := Lib.hid fun W => refline_any k a x c ha hx hc W
  have HLN := Lib.hid (line_any k a x c ha hx hc w0 (HT.out.later HA.out) (HL.out.later HA.out))
  have hwe := word_empty k
  have HLE : Hid (isK k = false → lineI k a x c = []) := Lib.hid fun h => by unfold lineI; rw [h]; rfl
  have hne := run_ne_op K A X C K A X C
  rw [eqOp_self] at hne
  have heq := run_eq_op K A X C K A X C
  rw [eqOp_self] at heq
  have hgd := guardOp
  have hsw : ((bs (wordI k)).toList == (bs (wordI k)).toList) = true := by simp
  have hsl : ((bs (lineI k a x c)).toList == (bs (lineI k a x c)).toList) = true := by simp
  generalize wordI k = wl at *
  generalize lineI k a x c = ll at *
  generalize usesI k = u at *
  clear hK hA hX hC hb1 ha hx hc
  have o0 := HC0.out 0 _ rfl
  have o1 := HC0.out 1 _ rfl
  have o2 := HC0.out 2 _ rfl
  have o3 := HC0.out 3 _ rfl
  go_enter Tryd.func3, Tryd.ntmps3
  go_wp2_with (go_at_call 14; fail)
  refine HLN.out.mono ?_
  rintro e w1 ⟨rfl, hb1⟩
  have HB1 : Hid (Below w.heap.size w w1) := Lib.hid (HA.out.trans (hb1.mono HA.out.size))
  have HC1 : Hid (CellsAt w1 w.heap.size [.int .i64 k, .int .i64 a, .int .i64 x, .int .i64 c]) := Lib.hid (HC0.out.later hb1)
  clear hb1 o0 o1 o2 o3 hw0
  have o0 := HC1.out 0 _ rfl
  have o1 := HC1.out 1 _ rfl
  have o2 := HC1.out 2 _ rfl
  have o3 := HC1.out 3 _ rfl
  obtain ⟨ec, hg⟩ : ∃ ec : Int, (if isK k = true then (0 : Int) else 1) = ec := ⟨_, rfl⟩
  rw [hg]
  have HG := Lib.hid hg
  clear hg
  go_wp2_with (go_at_call 15; fail)
  refine (HRB.out _).mono ?_
  rintro e w2 ⟨rfl, hb2⟩
  obtain ⟨w3, hw3⟩ : ∃ w3, w2.alloc (.cells #[.int .i64 K, .int .i64 A, .int .i64 X, .int .i64 C] 23) = w3 := ⟨_, rfl⟩
  have hb3 : Below w2.heap.size w2 w3 := by rw [← hw3]; exact (Below.refl _ _).alloc (Nat.le_refl _) _
  have hb13 := hb2.trans (hb3.mono hb2.size)
  have HB3 : Hid (Below w.heap.size w w3) := Lib.hid (HB1.out.trans (hb13.mono HB1.out.size))
  have HC3 : Hid (CellsAt w3 w.heap.size [.int .i64 k, .int .i64 a, .int .i64 x, .int .i64 c] ∧ CellsAt w3 w2.heap.size [.int .i64 K, .int .i64 A, .int .i64 X, .int .i64 C]) := Lib.hid ⟨HC1.out.later hb13, by rw [← hw3]; exact CellsAt.new _ _ _⟩
  clear hb2 hb3 hb13 o0 o1 o2 o3
  have o0 := HC3.out.1 0 _ rfl
  have o1 := HC3.out.1 1 _ rfl
  have o2 := HC3.out.1 2 _ rfl
  have o3 := HC3.out.1 3 _ rfl
  have p0 := HC3.out.2 0 _ rfl
  have p1 := HC3.out.2 1 _ rfl
  have p2 := HC3.out.2 2 _ rfl
  have p3 := HC3.out.2 3 _ rfl
  go_wp2_with fail
  have d0 := cell_regrown o0
  have d1 := cell_regrown o1
  have d2 := cell_regrown o2
  have d3 := cell_regrown o3
  have f0 := cell_regrown p0
  have f1 := cell_regrown p1
  have f2 := cell_regrown p2
  have f3 := cell_regrown p3
  have HGR : Hid (∀ d os, Below w.heap.size w (Sort.grow (redrawn w3 d) os)) := Lib.hid fun d os => HB3.out.trans ((below_regrown w3 d os).mono HB3.out.size)
  refine wp_region_quiet_below (by kernel_rfl) (by kernel_rfl) ?_
  repeat (go_big_quiet_step (first
    | (go_at_call 16; exact Calls.regrown_of (HNM.out _ (HGR.out _ _)))
    | (go_at_call 17; exact Calls.regrown_of (HRW.out _))
    | (go_at_call 18; exact Calls.regrown_of (HUS.out _ (HGR.out _ _)))
    | (go_at_call 19; exact Calls.regrown_of (HRU.out _))
    | (go_at_call 20; exact Calls.regrown_of (HBA.out _ (HGR.out _ _)))))
  refine wpQuiet_nil ?_
  intro W1 hw'
  have HBW := Lib.hid (below_of_regrown hw')
  clear hw' d0 d1 d2 d3 f0 f1 f2 f3 o0 o1 o2 o3 p0 p1 p2 p3
  have HB4 : Hid (Below w.heap.size w W1) := Lib.hid (HB3.out.trans (HBW.out.mono HB3.out.size))
  have o0 := (HC3.out.1.later HBW.out) 0 _ rfl
  have o1 := (HC3.out.1.later HBW.out) 1 _ rfl
  have o2 := (HC3.out.1.later HBW.out) 2 _ rfl
  have o3 := (HC3.out.1.later HBW.out) 3 _ rfl
  cases hk : isK k with
  | false =>
    rw [hk] at hwe
    simp only [Bool.not_false] at hwe
    obtain rfl : ll = [] := HLE.out hk
    obtain rfl : ec = 1 := by have := HG.out; rw [hk] at this; simpa using this.symm
    have he : (bs []).toList.isEmpty = true := by rw [bs_empty]; rfl
    clear hk
    go_wp2_with (first
      | (go_at_call 17; refine (HRW2.out _).mono ?_; rintro e w9 ⟨rfl, hw9⟩; obtain rfl : W1 = w9 := hw9.symm)
      | (go_at_call 21; refine (HAW.out _ HB4.out).mono ?_; rintro e w6 ⟨rfl, hb6⟩; have HB6 := Lib.hid hb6; clear hb6))
    go_ret
    exact ⟨rfl, HB4.out.trans (HB6.out.mono HB4.out.size)⟩
  | true =>
    rw [hk] at hwe
    simp only [Bool.not_true] at hwe
    obtain rfl : ec = 0 := by have := HG.out; rw [hk] at this; simpa using this.symm
    have HPA := Lib.hid (parse_any (bs ll) HSZ.out W1 (HT.out.later HB4.out) (HL.out.later HB4.out))
    have HPL2 : Hid (∀ e, ParseB (bs ll) e → e = .returned (.tuple #[opV K A X C, .int .i64 0])) := Lib.hid (HPL.out hk)
    clear hk
    go_wp2_with (first
      | (go_at_call 17; refine (HRW2.out _).mono ?_; rintro e w9 ⟨rfl, hw9⟩; obtain rfl : W1 = w9 := hw9.symm)
      | (go_at_call 22; fail))
    refine HPA.out.mono ?_
    rintro e w5 ⟨hpe, hb5⟩
    obtain rfl := HPL2.out e hpe
    unfold opV
    obtain ⟨w6, hw6⟩ : ∃ w6, w5.alloc (.cells #[.int .i64 K, .int .i64 A, .int .i64 X, .int .i64 C] 23) = w6 := ⟨_, rfl⟩
    have hb6 : Below w5.heap.size w5 w6 := by rw [← hw6]; exact (Below.refl _ _).alloc (Nat.le_refl _) _
    have hb46 := hb5.trans (hb6.mono hb5.size)
    have HB6 : Hid (Below w.heap.size w w6) := Lib.hid (HB4.out.trans (hb46.mono HB4.out.size))
    have HC6 : Hid (CellsAt w6 w.heap.size [.int .i64 k, .int .i64 a, .int .i64 x, .int .i64 c] ∧ CellsAt w6 w2.heap.size [.int .i64 K, .int .i64 A, .int .i64 X, .int .i64 C] ∧ CellsAt w6 w5.heap.size [.int .i64 K, .int .i64 A, .int .i64 X, .int .i64 C]) :=
      Lib.hid ⟨(HC3.out.1.later HBW.out).later hb46, (HC3.out.2.later HBW.out).later hb46, by rw [← hw6]; exact CellsAt.new _ _ _⟩
    clear hb5 hb6 hb46 hpe o0 o1 o2 o3
    have o0 := HC6.out.1 0 _ rfl
    have o1 := HC6.out.1 1 _ rfl
    have o2 := HC6.out.1 2 _ rfl
    have o3 := HC6.out.1 3 _ rfl
    go_wp2_with (go_at_call 23; fail)
    refine (HRL.out _).mono ?_
    rintro e w7 ⟨rfl, hb7⟩
    have HB7 : Hid (Below w.heap.size w w7) := Lib.hid (HB6.out.trans (hb7.mono HB6.out.size))
    have p0 := (HC6.out.2.1.later hb7) 0 _ rfl
    have p1 := (HC6.out.2.1.later hb7) 1 _ rfl
    have p2 := (HC6.out.2.1.later hb7) 2 _ rfl
    have p3 := (HC6.out.2.1.later hb7) 3 _ rfl
    have q0 := (HC6.out.2.2.later hb7) 0 _ rfl
    have q1 := (HC6.out.2.2.later hb7) 1 _ rfl
    have q2 := (HC6.out.2.2.later hb7) 2 _ rfl
    have q3 := (HC6.out.2.2.later hb7) 3 _ rfl
    clear hb7 o0 o1 o2 o3 hw6 hw3
    go_wp2_with (go_at_call 21; refine (HAW.out _ HB7.out).mono ?_; rintro e w8 ⟨rfl, hb8⟩; have HB8 := Lib.hid hb8; clear hb8)
    go_ret
    exact ⟨rfl, HB7.out.trans (HB8.out.mono HB7.out.size)⟩
end Go.Proofs.YtenjllknianieaaDoor.Opr
