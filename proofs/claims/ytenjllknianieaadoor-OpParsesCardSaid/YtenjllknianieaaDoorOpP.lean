/-
  The document's Parse.
-/
import Derived.Test.YtenjllknianieaaDoorOpL
import Derived.Test.YtenjllknianieaaDoorOpQ
namespace Go.Proofs.YtenjllknianieaaDoor.Opr
open Go.RowKit

theorem number_any (D : List UInt8) (hL : D.length ≤ 1000000) (w : World) :
    Calls Tryd.prog 57 #[.string (bs D)] w fun e w' => NumB2 (bs D) e ∧ Below w.heap.size w w' := by
  by_cases h : D.head? = some 45
  · cases D with
    | nil => cases h
    | cons c D =>
      obtain rfl : c = 45 := by simpa using h
      exact numberM_any D (by simp at hL; omega) w
  · exact numberP_any D hL h w
/-- What the document's Parse tells. -/
def RefP (s : ByteArray) (e : Ending) : Prop :=
  (∃ (k : Nat) (a b c : Int), BareK k a b c ∧ s = bs (lineK k a b c) ∧ e = .returned (.tuple #[opV k a b c, .bool true])) ∨
  (e = .returned (.tuple #[opV 0 0 0 0, .bool false]) ∧ ∀ (k : Nat) (a b c : Int), BareK k a b c → s ≠ bs (lineK k a b c))
theorem line_words {L v : List UInt8} {r : List (List UInt8)} (hj : joinW v r = L) (hv : NoB v) (hr : ∀ x ∈ r, NoB x) {k : Nat} {a b c : Int} (h : bs L = bs (lineK k a b c)) : v = wordK k ∧ r = (numsK k a b c).map Lib.itoa := by
  have e := bs_inj h
  rw [← hj] at e
  exact join_inj hv hr (noB_word k) noB_nums e
theorem words_line {r : List (List UInt8)} {k : Nat} (hl : r.length = usesK k) {f : Nat → Int} (hf : ∀ p, p < usesK k → r[p]? = some (Lib.itoa (f p))) : joinW (wordK k) r = lineK k (pk (usesK k) f 0) (pk (usesK k) f 1) (pk (usesK k) f 2) := by
  unfold lineK
  congr 1
  apply List.ext_getElem?
  intro p
  have hu := uses_cases k
  by_cases hp : p < usesK k
  · rw [hf p hp, List.getElem?_map, nums_get hp, numAt_three _ (by omega), pk_yes hp]; rfl
  · rw [List.getElem?_eq_none (by omega), List.getElem?_eq_none (by rw [List.length_map, nums_len]; omega)]

set_option maxRecDepth 200000 in
set_option maxHeartbeats 8000000 in
theorem refparse_any (L : List UInt8) (hL : L.length ≤ 1000000) (w : World) :
    Calls Tryd.prog 24 #[.string (bs L)] w fun e w' => RefP (bs L) e ∧ Below w.heap.size w w' := by
  have hA : Below w.heap.size w (w.alloc (.cells #[.int .i64 0, .int .i64 0, .int .i64 0, .int .i64 0] 23)) := (Below.refl _ _).alloc (Nat.le_refl _) _
  have HA := Lib.hid hA
  clear hA
  have HWO := Lib.hid (words_any L hL (w.alloc (.cells #[.int .i64 0, .int .i64 0, .int .i64 0, .int .i64 0] 23)))
  go_enter Tryd.func24, Tryd.ntmps24
  go_wp2_with (go_at_call 56; fail)
  refine HWO.out.mono ?_
  rintro e w1 ⟨⟨g, c, v, r, rfl, hv, hr, hj, hrl, hcl⟩, hb1⟩
  clear HWO
  rw [show (w.alloc (.cells #[.int .i64 0, .int .i64 0, .int .i64 0, .int .i64 0] 23)).heap.size = w.heap.size + 1 by simp] at hb1
  have hs1 := hb1.size
  rw [show (w.alloc (.cells #[.int .i64 0, .int .i64 0, .int .i64 0, .int .i64 0] 23)).heap.size = w.heap.size + 1 by simp] at hs1
  have hr1 : ∀ j, j < 4 → w1.cell? ⟨w.heap.size, j, none⟩ = some (.int .i64 0) ∧ w1.frozen? ⟨w.heap.size, j, none⟩ = false := by
    intro j hj
    have h4 : j = 0 ∨ j = 1 ∨ j = 2 ∨ j = 3 := by omega
    refine ⟨(hb1.cell (p := ⟨w.heap.size, j, none⟩) (by show w.heap.size < w.heap.size + 1; omega)).trans ?_, (hb1.frozen (p := ⟨w.heap.size, j, none⟩) (by show w.heap.size < w.heap.size + 1; omega)).trans (by simp)⟩
    rcases h4 with rfl | rfl | rfl | rfl <;> simp
  have HR : Hid (∀ W, Below w1.heap.size w1 W → ∀ j, j < 4 → W.cell? ⟨w.heap.size, j, none⟩ = some (.int .i64 0) ∧ W.frozen? ⟨w.heap.size, j, none⟩ = false) := Lib.hid fun W hW j hj =>
    ⟨(hW.cell (p := ⟨w.heap.size, j, none⟩) (by show w.heap.size < w1.heap.size; omega)).trans (hr1 j hj).1, (hW.frozen (p := ⟨w.heap.size, j, none⟩) (by show w.heap.size < w1.heap.size; omega)).trans (hr1 j hj).2⟩
  have HB1 : Hid (Below w.heap.size w w1) := Lib.hid (HA.out.trans (hb1.mono (by omega)))
  have HV : Hid (∀ W, Below w1.heap.size w1 W → ∀ j x, (v :: r)[j]? = some x → W.cell? ⟨g, j, none⟩ = some (.string (bs x))) := Lib.hid fun W hW j x hx =>
    (hW.cell (p := ⟨g, j, none⟩) (lt_of_cell (hcl j x hx))).trans (hcl j x hx)
  have HJ : Hid (∀ (k : Nat) (a b c : Int), bs L = bs (lineK k a b c) → v = wordK k ∧ r = (numsK k a b c).map Lib.itoa) := Lib.hid fun k a b c h => line_words hj hv hr h
  have HJ2 : Hid (joinW v r = L) := Lib.hid hj
  have HXL : Hid (∀ x ∈ r, x.length ≤ 1000000) := Lib.hid (by
    intro x hx
    have : x.length ≤ (joinT r).length := by
      clear HR HV HJ HJ2 hrl hcl hj hr
      induction r with
      | nil => cases hx
      | cons y r ih =>
        simp only [joinT, List.length_cons, List.length_append]
        rcases List.mem_cons.1 hx with rfl | h
        · omega
        · have := ih h; omega
    have h2 := congrArg List.length hj
    unfold joinW at h2
    rw [List.length_append] at h2
    omega)
  clear hb1 hr1 hcl hj hv hr
  obtain ⟨n, hn⟩ : ∃ n, r.length + 1 = n := ⟨_, rfl⟩
  rw [hn]
  have n0 : (0 : Int) < (n : Int) := by omega
  have hlt0 : w.heap.size < w1.heap.size := by omega
  go_wp2_with fail
  go_loopw [5] (fun kv wr => ∃ kk : Nat, 1 ≤ kk ∧ kk ≤ 9 ∧ kv = .int .i64 kk ∧ (∀ j, 1 ≤ j → j < kk → ¬ (wordK j = v ∧ r.length = usesK j)) ∧ Below w1.heap.size w1 wr) (fun kv _ => 9 - (intOf kv).toNat)
  case atStart => exact ⟨1, by omega, by omega, rfl, fun j h1 h2 => by omega, Below.refl _ _⟩
  case round =>
    obtain ⟨kk, k1, k9, rfl, hno, hb⟩ := hrel
    have HNO := Lib.hid hno
    have HB := Lib.hid hb
    clear hno
    by_cases h8 : kk ≤ 8
    · have hk := isK_of k1 h8
      have ew : wordI (kk : Int) = wordK kk := by unfold wordI; rw [hk]; simp
      have eu : usesI (kk : Int) = usesK kk := by unfold usesI; rw [hk]; simp
      have HW : Hid (∀ W, Calls Tryd.prog 17 #[.int .i64 kk] W fun e w' => e = .returned (.string (bs (wordK kk))) ∧ Below W.heap.size W w') := Lib.hid fun W => (refword_any kk W).mono fun e w' h => ⟨by rw [h.1, ew], by rw [h.2]; exact Below.refl _ _⟩
      have HU : Hid (∀ W, Calls Tryd.prog 19 #[.int .i64 kk] W fun e w' => e = .returned (.int .i64 (usesK kk)) ∧ Below W.heap.size W w') := Lib.hid fun W => (refuses_any kk W).mono fun e w' h => ⟨by rw [h.1, eu], by rw [h.2]; exact Below.refl _ _⟩
      have k8 : (kk : Int) ≤ 8 := by omega
      have s0 := HV.out wr hb 0 v rfl
      have t0 := cell_regrown s0
      have hu3 : usesK kk ≤ 3 := by rcases uses_cases kk with h | h | h | h <;> omega
      have hw1 : IntKind.i64.wrap ((usesK kk : Int) + 1) = (usesK kk : Int) + 1 := by rw [IntKind.wrap_i64]; omega
      clear hb hk ew eu
      by_cases hm : wordK kk = v
      · by_cases hl : r.length = usesK kk
        · have hq : ((bs (wordK kk)).toList == (bs v).toList) = true := by rw [hm]; simp
          have hq2 : ((n : Int) == (usesK kk : Int) + 1) = true := by rw [beq_iff_eq]; omega
          go_wp2_with fail
          refine wp_region_quiet_below (by kernel_rfl) (by kernel_rfl) ?_
          repeat (go_big_quiet_step (first
            | (go_at_call 17; exact Calls.regrown_of (HW.out _))
            | (go_at_call 19; exact Calls.regrown_of (HU.out _))))
          refine wpQuiet_nil ?_
          intro W1 hw'
          have HBW := Lib.hid (below_of_regrown hw')
          clear hw' t0 s0
          have HBk : Hid (Below w1.heap.size w1 W1) := Lib.hid (HB.out.trans (HBW.out.mono HB.out.size))
          have hsW := HBk.out.size
          have HM := Lib.hid hm
          have hnu : n = usesK kk + 1 := by omega
          have HNX := Lib.hid hnu
          have hn4 : n ≤ 4 := by omega
          clear hl hq hnu
          obtain ⟨W2, hW2⟩ : ∃ W2, W1.alloc (.cells #[.int .i64 0, .int .i64 0, .int .i64 0] 79) = W2 := ⟨_, rfl⟩
          have HB2 : Hid (Below W1.heap.size W1 W2) := Lib.hid (by rw [← hW2]; exact (Below.refl _ _).alloc (Nat.le_refl _) _)
          have HN2 : Hid (∀ p, p < 3 → W2.cell? ⟨W1.heap.size, p, none⟩ = some (.int .i64 0) ∧ W2.frozen? ⟨W1.heap.size, p, none⟩ = false) := Lib.hid (by
            intro p hp
            rw [← hW2]
            have h3 : p = 0 ∨ p = 1 ∨ p = 2 := by omega
            refine ⟨?_, by simp⟩
            rcases h3 with rfl | rfl | rfl <;> simp)
          have hne : ((n : Int) != (usesK kk : Int) + 1) = false := by rw [bne, hq2]; rfl
          rw [hne]
          clear hm hq2 hne
          go_wp2_with fail
          clear hW2
          go_loopw [7] (fun iv wr => ∃ (i : Nat) (f : Nat → Int), 1 ≤ i ∧ i ≤ n ∧ iv = .int .i64 i ∧ (∀ p, inI (f p)) ∧ (∀ p, p + 1 < i → r[p]? = some (Lib.itoa (f p))) ∧
            (∀ p, p < 3 → wr.cell? ⟨W1.heap.size, p, none⟩ = some (.int .i64 (pk (i - 1) f p)) ∧ wr.frozen? ⟨W1.heap.size, p, none⟩ = false) ∧ Below W1.heap.size W1 wr) (fun iv _ => 4 - (intOf iv).toNat)
          case atStart => exact ⟨1, fun _ => 0, by omega, by omega, rfl, fun _ => (show inI 0 by unfold inI; omega), fun p hp => by omega, fun p hp => ⟨by rw [pk_no (by omega)]; exact (HN2.out p hp).1, (HN2.out p hp).2⟩, HB2.out⟩
          case round =>
            obtain ⟨i, f, i1, hin, rfl, hf, hp, hc, hb⟩ := hrel
            have HB3 : Hid (Below w1.heap.size w1 wr) := Lib.hid (HBk.out.trans (hb.mono HBk.out.size))
            have HF := Lib.hid hf
            have HP := Lib.hid hp
            have HC := Lib.hid hc
            have HBi := Lib.hid hb
            clear hf hp hc hb
            by_cases hlt : i < n
            · obtain ⟨p, hip⟩ : ∃ p, i = p + 1 := ⟨i - 1, by omega⟩
              have hpr : p < r.length := by omega
              have HIP := Lib.hid hip
              obtain ⟨x, hx⟩ : ∃ x, r[p]? = some x := ⟨r[p], List.getElem?_eq_getElem hpr⟩
              have s0 := HV.out wr HB3.out i x (by rw [hip]; exact hx)
              have il : (i : Int) < (n : Int) := by omega
              have i0 : (0 : Int) ≤ (i : Int) := by omega
              have p0 : (0 : Int) ≤ (p : Int) := by omega
              have p3 : (p : Int) < 3 := by omega
              have hw2 : IntKind.i64.wrap ((i : Int) - 1) = (p : Int) := by rw [IntKind.wrap_i64]; omega
              have hw3 : IntKind.i64.wrap ((i : Int) + 1) = (i : Int) + 1 := by rw [IntKind.wrap_i64]; omega
              have HNU := Lib.hid (number_any x (HXL.out x (List.mem_of_getElem? hx)) wr)
              have HX := Lib.hid hx
              have hl1 : W1.heap.size < wr.heap.size := lt_of_cell (HC.out 0 (by omega)).1
              clear hx hip
              go_wp2_with (go_at_call 57; fail)
              refine HNU.out.mono ?_
              rintro e w5 ⟨hnum, hb5⟩
              have HB5 := Lib.hid hb5
              clear hb5
              rcases hnum with ⟨y, hy, hxy, rfl⟩ | ⟨⟨y, rfl⟩, hno2⟩
              · have HY : Hid (inI y ∧ x = Lib.itoa y) := Lib.hid ⟨hy, bs_inj hxy⟩
                have hcp := (HB5.out.cell (p := ⟨W1.heap.size, p, none⟩) hl1).trans (HC.out p (by omega)).1
                have hfp := (HB5.out.frozen (p := ⟨W1.heap.size, p, none⟩) hl1).trans (HC.out p (by omega)).2
                have HCP := Lib.hid hcp
                clear hy hxy
                go_wp2_with fail
                go_roundw
                case rel =>
                  have hip := HIP.out
                  refine ⟨i + 1, fun q => if q = p then y else f q, by omega, by omega, by go_num, fun q => ?_, fun q hq => ?_, fun q hq => ⟨?_, ?_⟩, (HBi.out.trans (HB5.out.mono HBi.out.size)).setCell (Nat.le_refl _) _⟩
                  · show inI (if q = p then y else f q)
                    split
                    · exact HY.out.1
                    · exact HF.out q
                  · show r[q]? = some (Lib.itoa (if q = p then y else f q))
                    by_cases hqp : q = p
                    · subst hqp
                      rw [if_pos rfl, HX.out, HY.out.2]
                    · rw [if_neg hqp]
                      exact HP.out q (by omega)
                  · by_cases hqp : q = p
                    · subst hqp
                      rw [World.cell?_setCell_same _ _ _ HCP.out, pk_yes (by omega)]
                      show _ = some (Value.int .i64 (if q = q then y else f q))
                      rw [if_pos rfl]
                    · rw [World.cell?_setCell_other _ _ _ _ (by intro e; injection e with _ e2; exact hqp e2.symm), HB5.out.cell (p := ⟨W1.heap.size, q, none⟩) hl1, (HC.out q hq).1]
                      by_cases h4 : q < p
                      · rw [pk_yes (by omega), pk_yes (by omega)]
                        show _ = some (Value.int .i64 (if q = p then y else f q))
                        rw [if_neg hqp]
                      · rw [pk_no (by omega), pk_no (by omega)]
                  · rw [World.frozen?_setCell, HB5.out.frozen (p := ⟨W1.heap.size, q, none⟩) hl1, (HC.out q hq).2]
                case measure => simp [intOf]; omega
              · have HN5 := Lib.hid hno2
                have HB6 : Hid (Below w1.heap.size w1 w5) := Lib.hid (HB3.out.trans (HB5.out.mono HB3.out.size))
                obtain ⟨r0, f0⟩ := HR.out _ HB6.out 0 (by omega)
                obtain ⟨r1, f1⟩ := HR.out _ HB6.out 1 (by omega)
                obtain ⟨r2, f2⟩ := HR.out _ HB6.out 2 (by omega)
                obtain ⟨r3, f3⟩ := HR.out _ HB6.out 3 (by omega)
                have hlw : w.heap.size < w5.heap.size := lt_of_cell r0
                clear hno2
                go_wp2_with fail
                refine bodyPost_ret (v := .tuple #[opV 0 0 0 0, .bool false]) (by simp [results, Tryd.results24, go_sem, opV, r0, r1, r2, r3]) rfl
                  ⟨.inr ⟨rfl, fun k a b c h1 h2 => ?_⟩, ((((HB1.out.trans (HB6.out.mono HB1.out.size)).setCell (by simp) _).setCell (by simp) _).setCell (by simp) _).setCell (by simp) _⟩
                obtain ⟨e1, e2⟩ := HJ.out k a b c h2
                have hx := HX.out
                rw [e2, List.getElem?_map] at hx
                cases hn5 : (numsK k a b c)[p]? with
                | none => rw [hn5] at hx; cases hx
                | some z =>
                  rw [hn5] at hx
                  obtain rfl : Lib.itoa z = x := by simpa using hx
                  exact HN5.out z (nums_in h1.2.2.1 h1.2.2.2.1 h1.2.2.2.2.1 z (List.mem_of_getElem? hn5)) rfl
            · obtain rfl : i = n := by omega
              obtain ⟨c0, _⟩ := HC.out 0 (by omega)
              obtain ⟨c1, _⟩ := HC.out 1 (by omega)
              obtain ⟨c2, _⟩ := HC.out 2 (by omega)
              have hnu := HNX.out
              have hiu : i - 1 = usesK kk := by omega
              rw [hiu] at c0 c1 c2
              have HRES : Hid (∃ (a b c : Int), pk (usesK kk) f 0 = a ∧ pk (usesK kk) f 1 = b ∧ pk (usesK kk) f 2 = c ∧ BareK kk a b c ∧ bs L = bs (lineK kk a b c)) := Lib.hid ⟨_, _, _, rfl, rfl, rfl, pk_bare k1 h8 HF.out, by
                rw [← words_line (r := r) (by omega) (fun p hp => HP.out p (by omega)), HM.out, HJ2.out]⟩
              obtain ⟨a, b, cc, ea, eb, ec, hbk, hln⟩ := HRES.out
              rw [ea] at c0
              rw [eb] at c1
              rw [ec] at c2
              obtain ⟨r0, f0⟩ := HR.out _ HB3.out 0 (by omega)
              obtain ⟨r1, f1⟩ := HR.out _ HB3.out 1 (by omega)
              obtain ⟨r2, f2⟩ := HR.out _ HB3.out 2 (by omega)
              obtain ⟨r3, f3⟩ := HR.out _ HB3.out 3 (by omega)
              have hlw : w.heap.size < wr.heap.size := lt_of_cell r0
              have HLN := Lib.hid hln
              clear ea eb ec hln hnu hiu
              go_wp2_with fail
              exact bodyPost_ret (v := .tuple #[opV kk a b cc, .bool true]) (by simp [results, Tryd.results24, go_sem, opV, r0, r1, r2, r3]) rfl
                ⟨.inl ⟨kk, a, b, cc, hbk, HLN.out, rfl⟩, ((((HB1.out.trans (HB3.out.mono HB1.out.size)).setCell (by simp) _).setCell (by simp) _).setCell (by simp) _).setCell (by simp) _⟩
        · have hq : ((bs (wordK kk)).toList == (bs v).toList) = true := by rw [hm]; simp
          have hq2 : ((n : Int) == (usesK kk : Int) + 1) = false := by rw [beq_eq_false_iff_ne]; omega
          go_wp2_with fail
          refine wp_region_quiet_below (by kernel_rfl) (by kernel_rfl) ?_
          repeat (go_big_quiet_step (first
            | (go_at_call 17; exact Calls.regrown_of (HW.out _))
            | (go_at_call 19; exact Calls.regrown_of (HU.out _))))
          refine wpQuiet_nil ?_
          intro W1 hw'
          have HBW := Lib.hid (below_of_regrown hw')
          clear hw' t0 s0
          go_wp2_with fail
          go_roundw
          case rel =>
            refine ⟨kk + 1, by omega, by omega, by go_num, fun j h1 h2 => ?_, HB.out.trans (HBW.out.mono HB.out.size)⟩
            by_cases hjk : j = kk
            · rintro ⟨_, h⟩; rw [hjk] at h; exact hl h
            · exact HNO.out j h1 (by omega)
          case measure => simp [intOf]; omega
      · have hq : ((bs (wordK kk)).toList == (bs v).toList) = false := by
          rw [← Bool.not_eq_true, beq_bytes]
          intro h
          exact hm (bs_inj h)
        go_wp2_with fail
        refine wp_region_quiet_below (by kernel_rfl) (by kernel_rfl) ?_
        repeat (go_big_quiet_step (first
          | (go_at_call 17; exact Calls.regrown_of (HW.out _))
          | (go_at_call 19; exact Calls.regrown_of (HU.out _))))
        refine wpQuiet_nil ?_
        intro W1 hw'
        have HBW := Lib.hid (below_of_regrown hw')
        clear hw' t0 s0
        go_wp2_with fail
        go_roundw
        case rel =>
          refine ⟨kk + 1, by omega, by omega, by go_num, fun j h1 h2 => ?_, HB.out.trans (HBW.out.mono HB.out.size)⟩
          by_cases hjk : j = kk
          · rintro ⟨h, _⟩; rw [hjk] at h; exact hm h
          · exact HNO.out j h1 (by omega)
        case measure => simp [intOf]; omega
    · obtain rfl : kk = 9 := by omega
      obtain ⟨r0, f0⟩ := HR.out _ HB.out 0 (by omega)
      obtain ⟨r1, f1⟩ := HR.out _ HB.out 1 (by omega)
      obtain ⟨r2, f2⟩ := HR.out _ HB.out 2 (by omega)
      obtain ⟨r3, f3⟩ := HR.out _ HB.out 3 (by omega)
      have hlw : w.heap.size < wr.heap.size := lt_of_cell r0
      clear hb
      go_wp2_with fail
      refine bodyPost_ret (v := .tuple #[opV 0 0 0 0, .bool false]) (by simp [results, Tryd.results24, go_sem, opV, r0, r1, r2, r3]) rfl
        ⟨.inr ⟨rfl, fun k a b c h1 h2 => ?_⟩, ((((HB1.out.trans (HB.out.mono HB1.out.size)).setCell (by simp) _).setCell (by simp) _).setCell (by simp) _).setCell (by simp) _⟩
      obtain ⟨e1, e2⟩ := HJ.out k a b c h2
      exact HNO.out k h1.1 (by have := h1.2.1; omega) ⟨e1.symm, by rw [e2, List.length_map, nums_len]⟩
end Go.Proofs.YtenjllknianieaaDoor.Opr
