/-
  op: fault, Check, Right.
-/
import Derived.Test.YtcdnbheoelnghaaDoorOpC
import Derived.Test.YtcdnbheoelnghaaDoorConfigB
import Derived.Lib.QuietBelow
import Derived.BigQuiet
namespace Go.Proofs.YtcdnbheoelnghaaDoor.Opr
open Go.RowKit

/-- A number that may stand below an end. -/
def belowB (n e : Int) : Bool := decide (0 ≤ n) && decide (n < e)
/-- What is wrong with a number, by what it stands for. -/
def faultE (r ce : Int) (u : Nat) (n : Int) : Int := if u = 1 ∧ belowB n r = false then 5 else if u = 2 ∧ belowB n ce = false then 9 else if u = 3 ∧ belowB n 16 = false then 8 else 0

set_option maxRecDepth 100000 in
set_option maxHeartbeats 2000000 in
theorem fault_any (b wd m r ce lg st : Int) (u : Nat) (n : Int) (w : World) :
    Calls Tryd.prog 41 #[.agg #[.int .i64 b, .int .i64 wd, .int .i64 m, .int .i64 r, .int .i64 ce, .int .i64 lg, .int .i64 st], .int .i64 u, .int .i64 n] w fun e w' => e = .returned (.int .i64 (faultE r ce u n)) ∧ Below w.heap.size w w' := by
  have hA : Below w.heap.size w (w.alloc (.cells #[.int .i64 b, .int .i64 wd, .int .i64 m, .int .i64 r, .int .i64 ce, .int .i64 lg, .int .i64 st] 23)) := (Below.refl _ _).alloc (Nat.le_refl _) _
  have HA := Lib.hid hA
  clear hA
  have HBL : Hid (∀ n e W, Calls Tryd.prog 59 #[.int .i64 n, .int .i64 e] W fun r w' => r = .returned (.bool (belowB n e)) ∧ w' = W) := Lib.hid below_any
  go_enter Tryd.func41, Tryd.ntmps41
  by_cases h1 : u = 1
  · subst h1
    cases hb : belowB n r with
    | false =>
      have e : faultE r ce 1 n = 5 := by simp [faultE, hb]
      rw [e]
      go_wp2_with (go_at_call 59; refine (HBL.out _ _ _).mono ?_; rw [hb]; rintro e w' ⟨rfl, rfl⟩)
      go_ret
      exact ⟨rfl, HA.out⟩
    | true =>
      have e : faultE r ce 1 n = 0 := by simp [faultE, hb]
      rw [e]
      go_wp2_with (go_at_call 59; refine (HBL.out _ _ _).mono ?_; rw [hb]; rintro e w' ⟨rfl, rfl⟩)
      go_ret
      exact ⟨rfl, HA.out⟩
  · by_cases h2 : u = 2
    · subst h2
      cases hb : belowB n ce with
      | false =>
        have e : faultE r ce 2 n = 9 := by simp [faultE, hb]
        rw [e]
        go_wp2_with (go_at_call 59; refine (HBL.out _ _ _).mono ?_; rw [hb]; rintro e w' ⟨rfl, rfl⟩)
        go_ret
        exact ⟨rfl, HA.out⟩
      | true =>
        have e : faultE r ce 2 n = 0 := by simp [faultE, hb]
        rw [e]
        go_wp2_with (go_at_call 59; refine (HBL.out _ _ _).mono ?_; rw [hb]; rintro e w' ⟨rfl, rfl⟩)
        go_ret
        exact ⟨rfl, HA.out⟩
    · by_cases h3 : u = 3
      · subst h3
        cases hb : belowB n 16 with
        | false =>
          have e : faultE r ce 3 n = 8 := by simp [faultE, hb]
          rw [e]
          go_wp2_with (go_at_call 59; refine (HBL.out _ _ _).mono ?_; rw [hb]; rintro e w' ⟨rfl, rfl⟩)
          go_ret
          exact ⟨rfl, HA.out⟩
        | true =>
          have e : faultE r ce 3 n = 0 := by simp [faultE, hb]
          rw [e]
          go_wp2_with (go_at_call 59; refine (HBL.out _ _ _).mono ?_; rw [hb]; rintro e w' ⟨rfl, rfl⟩)
          go_ret
          exact ⟨rfl, HA.out⟩
      · have e : faultE r ce u n = 0 := by simp [faultE, h1, h2, h3]
        rw [e]
        have q1 : ((u : Int) == 1) = false := by rw [beq_eq_false_iff_ne]; omega
        have q2 : ((u : Int) == 2) = false := by rw [beq_eq_false_iff_ne]; omega
        have q3 : ((u : Int) == 3) = false := by rw [beq_eq_false_iff_ne]; omega
        go_wp2_with fail
        go_ret
        exact ⟨rfl, HA.out⟩

theorem below_of_regrown {w w' : World} (h : ∃ p : Regrown, w' = Sort.grow (redrawn w p.d) p.os) : Below w.heap.size w w' := by
  obtain ⟨p, rfl⟩ := h
  exact below_regrown w p.d p.os
/-- Which fault comes first, from a place on. -/
def firstF (r ce : Int) (k : Nat) (f : Nat → Int) : Nat → Nat → Int
  | 0, _ => 0
  | n + 1, p => if faultE r ce (useK k p) (f p) = 0 then firstF r ce k f n (p + 1) else faultE r ce (useK k p) (f p)
/-- What Check tells. -/
def checkE (b wd m r ce lg st : Int) (k a x c : Int) : Int := if rightB b wd m r ce lg st = true ∧ isK k = true then firstF r ce k.toNat (numAt a x c) (usesK k.toNat) 0 else 1
theorem firstF_skip {r ce : Int} {k : Nat} {f : Nat → Int} {u : Nat} : ∀ p, p ≤ u → (∀ j, j < p → faultE r ce (useK k j) (f j) = 0) → firstF r ce k f u 0 = firstF r ce k f (u - p) p := by
  intro p
  induction p with
  | zero => intro _ _; rfl
  | succ p ih =>
    intro hp h
    rw [ih (by omega) (fun j hj => h j (by omega))]
    obtain ⟨q, hq⟩ : ∃ q, u - p = q + 1 := ⟨u - p - 1, by omega⟩
    rw [hq, show u - (p + 1) = q by omega]
    unfold firstF
    rw [if_pos (h p (by omega))]
    cases q <;> rfl

set_option maxRecDepth 200000 in
set_option maxHeartbeats 4000000 in
theorem check_any (b wd m r ce lg st : Int) (k a x c : Int) (w : World) (ht : FormTab w) (hm : LimTab w) :
    Calls Tryd.prog 26 #[.agg #[.int .i64 b, .int .i64 wd, .int .i64 m, .int .i64 r, .int .i64 ce, .int .i64 lg, .int .i64 st], .agg #[.int .i64 k, .int .i64 a, .int .i64 x, .int .i64 c]] w
      fun e w' => e = .returned (.int .i64 (checkE b wd m r ce lg st k a x c)) ∧ Below w.heap.size w w' := by
  have HT := Lib.hid ht
  have HM := Lib.hid hm
  clear ht hm
  have hA : Below w.heap.size w ((w.alloc (.cells #[.int .i64 b, .int .i64 wd, .int .i64 m, .int .i64 r, .int .i64 ce, .int .i64 lg, .int .i64 st] 23)).alloc (.cells #[.int .i64 k, .int .i64 a, .int .i64 x, .int .i64 c] 39)) := ((Below.refl _ _).alloc (Nat.le_refl _) _).alloc (by simp) _
  have HA := Lib.hid hA
  clear hA
  have HR := Lib.hid (right_any b wd m r ce lg st _ (HM.out.later HA.out))
  go_enter Tryd.func26, Tryd.ntmps26
  go_wp2_with (go_at_call 24; fail)
  refine HR.out.mono ?_
  rintro e w1 ⟨rfl, hb1⟩
  have HB1 : Hid (Below w.heap.size w w1) := Lib.hid (HA.out.trans (hb1.mono HA.out.size))
  have hc1 : ∀ j v, (#[Value.int .i64 b, .int .i64 wd, .int .i64 m, .int .i64 r, .int .i64 ce, .int .i64 lg, .int .i64 st] : Array Value)[j]? = some v → w1.cell? ⟨w.heap.size, j, none⟩ = some v := fun j v hv =>
    (hb1.cell (p := ⟨w.heap.size, j, none⟩) (by show w.heap.size < _; simp only [World.size_alloc]; omega)).trans (((Below.refl (w.heap.size + 1) (w.alloc (.cells #[.int .i64 b, .int .i64 wd, .int .i64 m, .int .i64 r, .int .i64 ce, .int .i64 lg, .int .i64 st] 23))).alloc (by simp) _).cell (p := ⟨w.heap.size, j, none⟩) (by show w.heap.size < w.heap.size + 1; omega) |>.trans (by rw [World.cell?_alloc_new]; exact hv))
  have ho1 : ∀ j v, (#[Value.int .i64 k, .int .i64 a, .int .i64 x, .int .i64 c] : Array Value)[j]? = some v → w1.cell? ⟨w.heap.size + 1, j, none⟩ = some v := fun j v hv =>
    (hb1.cell (p := ⟨w.heap.size + 1, j, none⟩) (by show w.heap.size + 1 < _; simp only [World.size_alloc]; omega)).trans (by
      rw [show w.heap.size + 1 = (w.alloc (.cells #[.int .i64 b, .int .i64 wd, .int .i64 m, .int .i64 r, .int .i64 ce, .int .i64 lg, .int .i64 st] 23)).heap.size by simp, World.cell?_alloc_new]; exact hv)
  have HC1 := Lib.hid hc1
  have HO1 := Lib.hid ho1
  clear hb1 hc1 ho1 HR
  have hk1 := HO1.out 0 _ rfl
  have hk2 := HO1.out 1 _ rfl
  have hk3 := HO1.out 2 _ rfl
  have hk4 := HO1.out 3 _ rfl
  cases hr : rightB b wd m r ce lg st with
  | false =>
    have e : checkE b wd m r ce lg st k a x c = 1 := by unfold checkE; rw [hr]; simp
    have HE := Lib.hid e
    clear e
    go_wp2_with fail
    go_ret
    exact ⟨by rw [HE.out]; rfl, HB1.out⟩
  | true =>
    cases hk : isK k with
    | false =>
      have e : checkE b wd m r ce lg st k a x c = 1 := by unfold checkE; rw [hk]; simp
      have HE := Lib.hid e
      clear e
      go_wp2_with (go_at_call 39; refine (is_any _ _).mono ?_; rw [hk]; rintro e w9 ⟨rfl, hw9⟩; obtain rfl : w1 = w9 := hw9.symm)
      go_ret
      exact ⟨by rw [HE.out]; rfl, HB1.out⟩
    | true =>
      have e : checkE b wd m r ce lg st k a x c = firstF r ce k.toNat (numAt a x c) (usesK k.toNat) 0 := by unfold checkE; rw [hr, hk]; simp
      obtain ⟨n, rfl, n1, n8⟩ := isK_nat hk
      have en : ((n : Int)).toNat = n := by simp
      rw [en] at e
      have HE := Lib.hid e
      clear e en
      have eu : usesI (n : Int) = usesK n := by unfold usesI; rw [hk]; rfl
      go_wp2_with (first
        | (go_at_call 39; refine (is_any _ _).mono ?_; rw [hk]; rintro e w9 ⟨rfl, hw9⟩; obtain rfl : w1 = w9 := hw9.symm)
        | (go_at_call 40; fail))
      refine (numbers_any n a x c _ (HT.out.later HB1.out)).mono ?_
      rintro e w2 ⟨N, hN, rfl, m0, m1, m2, hb2⟩
      rw [eu]
      have HB2 := Lib.hid (HB1.out.trans (hb2.mono HB1.out.size))
      have hu : usesK n ≤ 3 := by rcases uses_cases n with hu | hu | hu | hu <;> omega
      have HN : Hid (∀ W, Below w2.heap.size w2 W → ∀ p, p < 3 → W.cell? ⟨N, p, none⟩ = some (.int .i64 (numAt a x c p))) := Lib.hid (by
        intro W hW p hp
        refine (hW.cell (p := ⟨N, p, none⟩) (show N < w2.heap.size from lt_of_cell m0)).trans ?_
        have h3 : p = 0 ∨ p = 1 ∨ p = 2 := by omega
        rcases h3 with rfl | rfl | rfl <;> assumption)
      have HC2 : Hid (∀ W, Below w2.heap.size w2 W → ∀ j v, (#[Value.int .i64 b, .int .i64 wd, .int .i64 m, .int .i64 r, .int .i64 ce, .int .i64 lg, .int .i64 st] : Array Value)[j]? = some v → W.cell? ⟨w.heap.size, j, none⟩ = some v) := Lib.hid fun W hW j v hv => by
        have h1 := HC1.out j v hv
        have h2 : w.heap.size < w1.heap.size := lt_of_cell h1
        exact (hW.cell (p := ⟨w.heap.size, j, none⟩) (Nat.lt_of_lt_of_le h2 hb2.size)).trans ((hb2.cell (p := ⟨w.heap.size, j, none⟩) h2).trans h1)
      have HO2 : Hid (∀ W, Below w2.heap.size w2 W → W.cell? ⟨w.heap.size + 1, 0, none⟩ = some (.int .i64 n)) := Lib.hid fun W hW => by
        have h1 := HO1.out 0 _ rfl
        have h2 : w.heap.size + 1 < w1.heap.size := lt_of_cell h1
        exact (hW.cell (p := ⟨w.heap.size + 1, 0, none⟩) (Nat.lt_of_lt_of_le h2 hb2.size)).trans ((hb2.cell (p := ⟨w.heap.size + 1, 0, none⟩) h2).trans h1)
      clear hb2 m0 m1 m2 eu HC1 HO1 hk1 hk2 hk3 hk4
      generalize hU : usesK n = u at *
      clear hU
      go_wp2_with fail
      go_loopw [20] (fun i wr => ∃ p : Nat, p ≤ u ∧ i = .int .i64 p ∧ (∀ j, j < p → faultE r ce (useK n j) (numAt a x c j) = 0) ∧ Below w2.heap.size w2 wr) (fun i _ => 3 - (intOf i).toNat)
      case atStart => exact ⟨0, by omega, rfl, fun j hj => by omega, Below.refl _ _⟩
      case round =>
        obtain ⟨p, hp, rfl, hz, hb⟩ := hrel
        have HZ := Lib.hid hz
        have HB := Lib.hid hb
        clear hz hb
        have p0 : (0 : Int) ≤ (p : Int) := by omega
        by_cases hlt : p < u
        · have p3 : (p : Int) < 3 := by omega
          have pu : (p : Int) < (u : Int) := by omega
          have n0 : (0 : Int) ≤ (n : Int) := by omega
          have n9 : (n : Int) < 9 := by omega
          have hnp := HN.out wr HB.out p (by omega)
          have hnk := HO2.out wr HB.out
          have hfm := ((HT.out.later HB2.out).later HB.out).use n p (by omega) (by omega)
          have q0 := HC2.out wr HB.out 0 _ rfl
          have q1 := HC2.out wr HB.out 1 _ rfl
          have q2 := HC2.out wr HB.out 2 _ rfl
          have q3 := HC2.out wr HB.out 3 _ rfl
          have q4 := HC2.out wr HB.out 4 _ rfl
          have q5 := HC2.out wr HB.out 5 _ rfl
          have q6 := HC2.out wr HB.out 6 _ rfl
          have HFA : Hid (∀ W, Calls Tryd.prog 41 #[.agg #[.int .i64 b, .int .i64 wd, .int .i64 m, .int .i64 r, .int .i64 ce, .int .i64 lg, .int .i64 st], .int .i64 (useK n p), .int .i64 (numAt a x c p)] W fun e w' => e = .returned (.int .i64 (faultE r ce (useK n p) (numAt a x c p))) ∧ Below W.heap.size W w') := Lib.hid fun W => fault_any b wd m r ce lg st _ _ W
          go_wp2_with fail
          have d0 := cell_regrown q0
          have d1 := cell_regrown q1
          have d2 := cell_regrown q2
          have d3 := cell_regrown q3
          have d4 := cell_regrown q4
          have d5 := cell_regrown q5
          have d6 := cell_regrown q6
          have d7 := cell_regrown hnk
          have d8 := cell_regrown hfm
          refine wp_region_quiet_below (by kernel_rfl) (by kernel_rfl) ?_
          repeat (go_big_quiet_step ((go_at_call 41; exact Calls.regrown_of (HFA.out _))))
          refine wpQuiet_nil ?_
          intro W1 hw'
          have hb1 := below_of_regrown hw'
          have HBW := Lib.hid (HB.out.trans (hb1.mono HB.out.size))
          clear hw' hb1 d0 d1 d2 d3 d4 d5 d6 d7 d8
          by_cases hf : faultE r ce (useK n p) (numAt a x c p) = 0
          · have HF0 := Lib.hid hf
            have hq : (faultE r ce (useK n p) (numAt a x c p) != 0) = false := by rw [hf]; rfl
            clear hf
            generalize hv : faultE r ce (useK n p) (numAt a x c p) = v at hq ⊢
            have HV := Lib.hid hv
            clear hv
            go_wp2_with fail
            go_roundw
            case rel =>
              refine ⟨p + 1, by omega, by go_num, fun j hj => ?_, HBW.out⟩
              by_cases hj2 : j < p
              · exact HZ.out j hj2
              · obtain rfl : j = p := by omega
                exact HF0.out
            case measure => simp [intOf]; omega
          · have hq : (faultE r ce (useK n p) (numAt a x c p) != 0) = true := by rw [bne_iff_ne]; exact hf
            have HFN : Hid (firstF r ce n (numAt a x c) u 0 = faultE r ce (useK n p) (numAt a x c p)) := Lib.hid (by
              rw [firstF_skip p (by omega) HZ.out]
              obtain ⟨q, hq⟩ : ∃ q, u - p = q + 1 := ⟨u - p - 1, by omega⟩
              rw [hq]
              unfold firstF
              rw [if_neg hf])
            clear hf
            generalize faultE r ce (useK n p) (numAt a x c p) = v at hq HFN ⊢
            go_wp2_with fail
            go_ret
            exact ⟨by rw [HE.out, HFN.out]; rfl, HB2.out.trans (HBW.out.mono HB2.out.size)⟩
        · obtain rfl : p = u := by omega
          go_wp2
          go_ret
          exact ⟨by rw [HE.out, firstF_skip p (Nat.le_refl _) HZ.out, Nat.sub_self]; rfl, HB2.out.trans (HB.out.mono HB2.out.size)⟩

/-- The first one of several that is wrong: its place, and what is wrong. -/
def rightR (f : Nat → Int) : Nat → Nat → Int × Int
  | 0, _ => (0, 0)
  | n + 1, p => if f p = 0 then rightR f n (p + 1) else ((p : Int), f p)
theorem rightR_skip {f : Nat → Int} {u : Nat} : ∀ p, p ≤ u → (∀ j, j < p → f j = 0) → rightR f u 0 = rightR f (u - p) p := by
  intro p
  induction p with
  | zero => intro _ _; rfl
  | succ p ih =>
    intro hp h
    rw [ih (by omega) (fun j hj => h j (by omega))]
    obtain ⟨q, hq⟩ : ∃ q, u - p = q + 1 := ⟨u - p - 1, by omega⟩
    rw [hq, show u - (p + 1) = q by omega]
    conv => lhs; unfold rightR
    rw [if_pos (h p (by omega))]
/-- A row of operations as it lies. -/
def OpsAt (w : World) (p : Option Addr) (l : List (Int × Int × Int × Int)) : Prop := ∀ i, i < l.length → ∃ b off, p = some ⟨b, off, none⟩ ∧ w.cell? ⟨b, off + i * 4, none⟩ = some (.int .i64 (l.getD i (0, 0, 0, 0)).1) ∧
  w.cell? ⟨b, off + i * 4 + 1, none⟩ = some (.int .i64 (l.getD i (0, 0, 0, 0)).2.1) ∧ w.cell? ⟨b, off + i * 4 + 2, none⟩ = some (.int .i64 (l.getD i (0, 0, 0, 0)).2.2.1) ∧ w.cell? ⟨b, off + i * 4 + 3, none⟩ = some (.int .i64 (l.getD i (0, 0, 0, 0)).2.2.2)
theorem OpsAt.later {w w' : World} {p : Option Addr} {l : List (Int × Int × Int × Int)} (h : OpsAt w p l) (hb : Below w.heap.size w w') : OpsAt w' p l := fun i hi => by
  obtain ⟨b, off, e, c0, c1, c2, c3⟩ := h i hi
  exact ⟨b, off, e, (hb.cell (p := ⟨b, _, none⟩) (lt_of_cell c0)).trans c0, (hb.cell (p := ⟨b, _, none⟩) (lt_of_cell c1)).trans c1, (hb.cell (p := ⟨b, _, none⟩) (lt_of_cell c2)).trans c2, (hb.cell (p := ⟨b, _, none⟩) (lt_of_cell c3)).trans c3⟩

end Go.Proofs.YtcdnbheoelnghaaDoor.Opr
