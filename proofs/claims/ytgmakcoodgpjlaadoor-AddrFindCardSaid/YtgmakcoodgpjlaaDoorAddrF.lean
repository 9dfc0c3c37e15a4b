/-
  The document's place of an address, for every config, class and address.
-/
import Derived.Test.YtgmakcoodgpjlaaDoorAddrC
import Derived.Test.YtgmakcoodgpjlaaDoorAddrD
namespace Go.Proofs.YtgmakcoodgpjlaaDoor.Addr
open Go.RowKit Go.Sort
open Class (SizTab isB sizI perI isB_true isB_false sizI_bd sizI_no perI_yes perI_noC perI_noW wordsB wordsB_true refper_any refsize_any refis_any quiet_left below_drewN per_bd)

/-- What is found at so many words of a block. -/
def RefPlace (w : World) (wd k q x : Int) (e : Ending) (w' : World) : Prop := if x / sizI k < perI wd k then PlaceB w q (x / sizI k) (x % sizI k) true e w' else PlaceB w 0 0 0 false e w'
theorem refPlace_yes {w w' : World} {wd k q x c t : Int} (h : c * sizI k + t = x) (t0 : 0 ≤ t) (t1 : t < sizI k) (h1 : c < perI wd k) (hb : Below w.heap.size w w') :
    RefPlace w wd k q x (.returned (.tuple #[.agg #[.int .i64 q, .int .i64 c, .int .i64 t], .bool true])) w' := by
  have e1 : x / sizI k = c := by
    rw [← h, Int.add_comm, Int.add_mul_ediv_right _ _ (by omega), Int.ediv_eq_zero_of_lt t0 t1, Int.zero_add]
  have e2 : x % sizI k = t := by
    rw [← h, Int.add_comm, Int.add_mul_emod_self_right, Int.emod_eq_of_lt t0 t1]
  unfold RefPlace
  rw [e1, e2, if_pos h1]
  exact ⟨rfl, hb⟩
theorem refPlace_no {w w' : World} {wd k q x c : Int} (s0 : 2 ≤ sizI k) (h : c * sizI k ≤ x) (h1 : perI wd k ≤ c) (hb : Below w.heap.size w w') :
    RefPlace w wd k q x (.returned (.tuple #[.agg #[.int .i64 0, .int .i64 0, .int .i64 0], .bool false])) w' := by
  have e1 : c ≤ x / sizI k := (Int.le_ediv_iff_mul_le (by omega)).2 h
  unfold RefPlace
  rw [if_neg (by omega)]
  exact ⟨rfl, hb⟩


set_option maxHeartbeats 4000000 in
theorem reffind_0 (b wd m r ce lg st k a : Int) (w : World) (hrr : refRightB b wd m r ce lg st = false) :
    Calls Tryd.prog 29 #[.agg #[.int .i64 b, .int .i64 wd, .int .i64 m, .int .i64 r, .int .i64 ce, .int .i64 lg, .int .i64 st], .int .i64 k, .int .i64 a] w (PlaceB w 0 0 0 false) := by
  go_enter Tryd.func29, Tryd.ntmps29
  go_wp2_with (first
  | (go_at_call 24; refine (refright_any _ _ _ _ _ _ _ _).mono ?_; rintro e w1 ⟨rfl, hb⟩; rw [hrr]; obtain ⟨hc, hf⟩ := bcell hb)
  | (go_at_call 13; refine (refis_any _ _).mono ?_; rintro e w' ⟨rfl, rfl⟩; rw [hkk]))
  have hz : w.heap.size + 1 < w1.heap.size := by have := hb.size; simp at this; omega
  exact bodyPost_ret (v := .tuple #[.agg #[.int .i64 0, .int .i64 0, .int .i64 0], .bool false]) (by simp [results, Tryd.results29, go_sem, hc, hz]) rfl ⟨rfl, (((((((Below.refl _ _).alloc (Nat.le_refl _) _).alloc (by simp) _).trans (hb.mono (by simp; omega))).setCell (by simp) _).setCell (by simp) _).setCell (by simp) _)⟩

set_option maxHeartbeats 4000000 in
theorem reffind_1 (b wd m r ce lg st k a : Int) (w : World) (hrr : refRightB b wd m r ce lg st = true) (hkk : isB k = false) :
    Calls Tryd.prog 29 #[.agg #[.int .i64 b, .int .i64 wd, .int .i64 m, .int .i64 r, .int .i64 ce, .int .i64 lg, .int .i64 st], .int .i64 k, .int .i64 a] w (PlaceB w 0 0 0 false) := by
  go_enter Tryd.func29, Tryd.ntmps29
  go_wp2_with (first
  | (go_at_call 24; refine (refright_any _ _ _ _ _ _ _ _).mono ?_; rintro e w1 ⟨rfl, hb⟩; rw [hrr]; obtain ⟨hc, hf⟩ := bcell hb)
  | (go_at_call 13; refine (refis_any _ _).mono ?_; rintro e w' ⟨rfl, rfl⟩; rw [hkk]))
  have hz : w.heap.size + 1 < w1.heap.size := by have := hb.size; simp at this; omega
  exact bodyPost_ret (v := .tuple #[.agg #[.int .i64 0, .int .i64 0, .int .i64 0], .bool false]) (by simp [results, Tryd.results29, go_sem, hc, hz]) rfl ⟨rfl, (((((((Below.refl _ _).alloc (Nat.le_refl _) _).alloc (by simp) _).trans (hb.mono (by simp; omega))).setCell (by simp) _).setCell (by simp) _).setCell (by simp) _)⟩

set_option maxHeartbeats 4000000 in
theorem reffind_2 (b wd m r ce lg st k a : Int) (w : World) (hrr : refRightB b wd m r ce lg st = true) (hkk : isB k = true) (a2 : a < 1) :
    Calls Tryd.prog 29 #[.agg #[.int .i64 b, .int .i64 wd, .int .i64 m, .int .i64 r, .int .i64 ce, .int .i64 lg, .int .i64 st], .int .i64 k, .int .i64 a] w (PlaceB w 0 0 0 false) := by
  go_enter Tryd.func29, Tryd.ntmps29
  go_wp2_with (first
  | (go_at_call 24; refine (refright_any _ _ _ _ _ _ _ _).mono ?_; rintro e w1 ⟨rfl, hb⟩; rw [hrr]; obtain ⟨hc, hf⟩ := bcell hb)
  | (go_at_call 13; refine (refis_any _ _).mono ?_; rintro e w' ⟨rfl, rfl⟩; rw [hkk]))
  have hz : w.heap.size + 1 < w1.heap.size := by have := hb.size; simp at this; omega
  exact bodyPost_ret (v := .tuple #[.agg #[.int .i64 0, .int .i64 0, .int .i64 0], .bool false]) (by simp [results, Tryd.results29, go_sem, hc, hz]) rfl ⟨rfl, (((((((Below.refl _ _).alloc (Nat.le_refl _) _).alloc (by simp) _).trans (hb.mono (by simp; omega))).setCell (by simp) _).setCell (by simp) _).setCell (by simp) _)⟩

set_option maxHeartbeats 4000000 in
theorem reffind_3 (b wd m r ce lg st k a : Int) (w : World) (hrr : refRightB b wd m r ce lg st = true) (hkk : isB k = true) (a2 : 1 ≤ a) (a3 : b * wd < a) (p0 : 0 ≤ b * wd) (p1 : b * wd ≤ 1048576) :
    Calls Tryd.prog 29 #[.agg #[.int .i64 b, .int .i64 wd, .int .i64 m, .int .i64 r, .int .i64 ce, .int .i64 lg, .int .i64 st], .int .i64 k, .int .i64 a] w (PlaceB w 0 0 0 false) := by
  go_enter Tryd.func29, Tryd.ntmps29
  go_wp2_with (first
  | (go_at_call 24; refine (refright_any _ _ _ _ _ _ _ _).mono ?_; rintro e w1 ⟨rfl, hb⟩; rw [hrr]; obtain ⟨hc, hf⟩ := bcell hb)
  | (go_at_call 13; refine (refis_any _ _).mono ?_; rintro e w' ⟨rfl, rfl⟩; rw [hkk]))
  have hz : w.heap.size + 1 < w1.heap.size := by have := hb.size; simp at this; omega
  exact bodyPost_ret (v := .tuple #[.agg #[.int .i64 0, .int .i64 0, .int .i64 0], .bool false]) (by simp [results, Tryd.results29, go_sem, hc, hz]) rfl ⟨rfl, (((((((Below.refl _ _).alloc (Nat.le_refl _) _).alloc (by simp) _).trans (hb.mono (by simp; omega))).setCell (by simp) _).setCell (by simp) _).setCell (by simp) _)⟩

set_option maxHeartbeats 8000000 in
set_option maxRecDepth 100000 in
theorem reffind_4 (b wd m r ce lg st k a q x : Int) (w : World) (hrr : refRightB b wd m r ce lg st = true) (hkk : isB k = true) (a2 : 1 ≤ a) (a3 : a ≤ b * wd) (p0 : 0 ≤ b * wd) (p1 : b * wd ≤ 1048576)
    (q0 : 0 ≤ q) (hqb : blkB b q = true) (ha : a = q * wd + 1 + x) (x0 : 0 ≤ x) (x1 : x < wd) (w0 : 16 ≤ wd) (w1' : wd ≤ 256) (b1 : b ≤ 4096) :
    Calls Tryd.prog 29 #[.agg #[.int .i64 b, .int .i64 wd, .int .i64 m, .int .i64 r, .int .i64 ce, .int .i64 lg, .int .i64 st], .int .i64 k, .int .i64 a] w
      (RefPlace w wd k q x) := by
  have HA := Lib.hid ha
  clear ha
  go_enter Tryd.func29, Tryd.ntmps29
  go_wp2_with (first
  | (go_at_call 24; refine (refright_any _ _ _ _ _ _ _ _).mono ?_; rintro e w1 ⟨rfl, hb⟩; rw [hrr]; obtain ⟨hc, hf⟩ := bcell hb)
  | (go_at_call 13; refine (refis_any _ _).mono ?_; rintro e w' ⟨rfl, rfl⟩; rw [hkk]))
  have hz : w.heap.size + 1 < w1.heap.size := by have := hb.size; simp at this; omega
  have hz0 : w.heap.size < w1.heap.size := by omega
  obtain ⟨qn, rfl⟩ : ∃ n : Nat, q = n := ⟨q.toNat, by omega⟩
  obtain ⟨_, hq1⟩ := blkB_true.1 hqb
  have HRR := Lib.hid hrr
  have HKK := Lib.hid hkk
  have c0 : w1.cell? ⟨w.heap.size, 0, none⟩ = some (.int .i64 b) := by rw [hc _ _ (by simp; omega)]; go_simp
  have c1 : w1.cell? ⟨w.heap.size, 1, none⟩ = some (.int .i64 wd) := by rw [hc _ _ (by simp; omega)]; go_simp
  have c2 : w1.cell? ⟨w.heap.size, 2, none⟩ = some (.int .i64 m) := by rw [hc _ _ (by simp; omega)]; go_simp
  have c3 : w1.cell? ⟨w.heap.size, 3, none⟩ = some (.int .i64 r) := by rw [hc _ _ (by simp; omega)]; go_simp
  have c4 : w1.cell? ⟨w.heap.size, 4, none⟩ = some (.int .i64 ce) := by rw [hc _ _ (by simp; omega)]; go_simp
  have c5 : w1.cell? ⟨w.heap.size, 5, none⟩ = some (.int .i64 lg) := by rw [hc _ _ (by simp; omega)]; go_simp
  have c6 : w1.cell? ⟨w.heap.size, 6, none⟩ = some (.int .i64 st) := by rw [hc _ _ (by simp; omega)]; go_simp
  have r0 : w1.cell? ⟨w.heap.size + 1, 0, none⟩ = some (.int .i64 0) := by rw [hc _ _ (by simp)]; go_simp
  have r1 : w1.cell? ⟨w.heap.size + 1, 1, none⟩ = some (.int .i64 0) := by rw [hc _ _ (by simp)]; go_simp
  have r2 : w1.cell? ⟨w.heap.size + 1, 2, none⟩ = some (.int .i64 0) := by rw [hc _ _ (by simp)]; go_simp
  have f0 : w1.frozen? ⟨w.heap.size + 1, 0, none⟩ = false := by rw [hf _ _ (by simp)]; go_simp
  have f1 : w1.frozen? ⟨w.heap.size + 1, 1, none⟩ = false := by rw [hf _ _ (by simp)]; go_simp
  have f2 : w1.frozen? ⟨w.heap.size + 1, 2, none⟩ = false := by rw [hf _ _ (by simp)]; go_simp
  have HBB := Lib.hid ((((Below.refl _ w).alloc (Nat.le_refl _) _).alloc (by simp) _).trans (hb.mono (by simp; omega)))
  clear hb hc hf hrr hkk
  go_loop [8] (fun i => ∃ n : Nat, n ≤ qn ∧ i = .int .i64 n) (fun i => qn - (intOf i).toNat)
  case atStart => exact ⟨0, by omega, rfl⟩
  case round =>
    obtain ⟨n, hn, rfl⟩ := hrel
    have m0 : 0 ≤ ((n : Int) + 1) * wd := Int.mul_nonneg (by omega) (by omega)
    have m1 : ((n : Int) + 1) * wd ≤ 1048832 := Int.le_trans (Int.mul_le_mul (show (n : Int) + 1 ≤ 4097 by omega) w1' (by omega) (by omega)) (by decide)
    by_cases hlt : n < qn
    · have hcmp : ((n : Int) + 1) * wd < a := by
        have h1 : ((n : Int) + 1) * wd ≤ (qn : Int) * wd := Int.mul_le_mul_of_nonneg_right (by omega) (by omega)
        have := HA.out
        omega
      go_wp2
      go_round
      case rel => exact ⟨n + 1, by omega, by go_num⟩
      case measure => simp [intOf]; omega
    · obtain rfl : n = qn := by omega
      have hcmp : a ≤ ((n : Int) + 1) * wd := by
        have h1 : ((n : Int) + 1) * wd = (n : Int) * wd + wd := by rw [Int.add_mul, Int.one_mul]
        have := HA.out
        omega
      clear hlt
      obtain ⟨s0, s1⟩ := sizI_bd HKK.out
      obtain ⟨e0, e1⟩ := per_bd wd k
      go_wp2_with fail
      go_loopw [9] (fun s wr => ∃ c : Nat, (c : Int) ≤ perI wd k ∧ s = .int .i64 c ∧ (c : Int) * sizI k ≤ x ∧ Below w1.heap.size w1 wr) (fun s _ => (perI wd k).toNat - (intOf s).toNat)
      case atStart => exact ⟨0, by omega, rfl, by simp; omega, Below.refl _ _⟩
      case round =>
        obtain ⟨c, hc1, rfl, hcx, hb2⟩ := hrel
        obtain ⟨hcr, hfr⟩ := bcell hb2
        have HB2 := Lib.hid hb2
        have HCX := Lib.hid hcx
        clear hb2 hcx
        by_cases hlt : (c : Int) < perI wd k
        · go_wp2_with (go_at_call 19; refine (refper_any _ _ _).mono ?_; rintro e w' ⟨rfl, rfl⟩)
          clear hcr hfr
          go_loopw [10] (fun s wq => ∃ t : Nat, (t : Int) ≤ sizI k ∧ s = .int .i64 t ∧ (c : Int) * sizI k + t ≤ x ∧ Below w1.heap.size w1 wq) (fun s _ => (sizI k).toNat - (intOf s).toNat)
          case atStart => exact ⟨0, by omega, rfl, by have := HCX.out; simp; omega, HB2.out⟩
          case round =>
            obtain ⟨t, ht1, rfl, htx, hb3⟩ := hrel
            obtain ⟨hcr, hfr⟩ := bcell hb3
            have HB3 := Lib.hid hb3
            have HTX := Lib.hid htx
            clear hb3 htx
            by_cases htl : (t : Int) < sizI k
            · have hsb : sltB (rightB b wd m r ce lg st) b wd k (n : Int) (c : Int) = true := sltB_true.2 ⟨(rightB_ref ..).trans HRR.out, hqb, by omega, hlt⟩
              have hofb : ofB (rightB b wd m r ce lg st) b wd k (n : Int) (c : Int) (t : Int) = true := ofB_true.2 ⟨hsb, by omega, htl⟩
              have HOF := Lib.hid (ofI_yes hofb)
              have HOB := Lib.hid hsb
              clear hsb hofb
              by_cases heq : (c : Int) * sizI k + t = x
              · have hcm : ((n : Int) * wd + 1 + (c : Int) * sizI k + t == a) = true := by have := HA.out; simp; omega
                have HEQ := Lib.hid heq
                clear heq
                go_wp2_with (first
                  | (go_at_call 15; refine (refsize_any _ _).mono ?_; rintro e w' ⟨rfl, rfl⟩)
                  | (go_at_call 22; refine (refof_any _ _ _ _ _ _ _ _ _ _ _ _).mono ?_; rintro e w3 ⟨rfl, hb4⟩; rw [HOF.out]; obtain ⟨hc4, hf4⟩ := bcell hb4; have hz4 : w.heap.size + 1 < wr.heap.size := by have := HB3.out.size; omega))
                exact bodyPost_ret (v := .tuple #[.agg #[.int .i64 (n : Int), .int .i64 (c : Int), .int .i64 (t : Int)], .bool true]) (by simp [results, Tryd.results29, go_sem, hc4, hz4, hcr, hz, r0, r1, r2]) rfl
                  (refPlace_yes HEQ.out (by omega) htl hlt ((((HBB.out.trans ((HB3.out.trans (hb4.mono HB3.out.size)).mono (by omega))).setCell (by simp) _).setCell (by simp) _).setCell (by simp) _))
              · have hcm : ((n : Int) * wd + 1 + (c : Int) * sizI k + t == a) = false := by have := HA.out; simp; omega
                have HEQ := Lib.hid heq
                clear heq
                go_wp2_with (first
                  | (go_at_call 15; refine (refsize_any _ _).mono ?_; rintro e w' ⟨rfl, rfl⟩)
                  | (go_at_call 22; refine (refof_any _ _ _ _ _ _ _ _ _ _ _ _).mono ?_; rintro e w3 ⟨rfl, hb4⟩; rw [HOF.out]))
                refine ⟨⟨t + 1, by omega, by go_num, ?_, HB3.out.trans (hb4.mono HB3.out.size)⟩, ?_⟩
                · have h1 := HTX.out
                  have h2 := HEQ.out
                  omega
                · simp [intOf]; omega
            · have htl' : sizI k ≤ (t : Int) := by omega
              go_wp2_with (go_at_call 15; refine (refsize_any _ _).mono ?_; rintro e w' ⟨rfl, rfl⟩)
              refine ⟨⟨c + 1, by omega, by go_num, ?_, HB3.out⟩, ?_⟩
              · have h1 : ((c + 1 : Nat) : Int) * sizI k = (c : Int) * sizI k + sizI k := by rw [Int.natCast_add, Int.add_mul]; simp
                have := HTX.out
                omega
              · simp [intOf]; omega
        · have hlt' : perI wd k ≤ (c : Int) := by omega
          go_wp2_with (go_at_call 19; refine (refper_any _ _ _).mono ?_; rintro e w' ⟨rfl, rfl⟩)
          exact bodyPost_ret (v := .tuple #[.agg #[.int .i64 0, .int .i64 0, .int .i64 0], .bool false]) (by simp [results, Tryd.results29, go_sem, hcr, hz, r0, r1, r2]) rfl
            (refPlace_no s0 HCX.out hlt' ((((HBB.out.trans (HB2.out.mono (by omega))).setCell (by simp) _).setCell (by simp) _).setCell (by simp) _))

theorem reffind_any (b wd m r ce lg st k a : Int) (w : World) :
    Calls Tryd.prog 29 #[.agg #[.int .i64 b, .int .i64 wd, .int .i64 m, .int .i64 r, .int .i64 ce, .int .i64 lg, .int .i64 st], .int .i64 k, .int .i64 a] w
      (PlaceB w (findV (rightB b wd m r ce lg st) b wd k a).1 (findV (rightB b wd m r ce lg st) b wd k a).2.1 (findV (rightB b wd m r ce lg st) b wd k a).2.2 (finB (rightB b wd m r ce lg st) b wd k a)) := by
  by_cases hr : rightB b wd m r ce lg st = true
  · have hrr := (rightB_ref b wd m r ce lg st).symm.trans hr
    have hR : RightC b wd m r ce lg st := refRightB_true.1 hrr
    obtain ⟨p0, p1⟩ := hR.words
    by_cases hkk : isB k = true
    · by_cases h1 : 1 ≤ a
      · by_cases h2 : a ≤ b * wd
        · have hA : adrB (rightB b wd m r ce lg st) b wd a = true := adrB_true.2 ⟨hr, h1, h2⟩
          obtain ⟨g1, g2, g3, g4, g5⟩ := adr_parts hR h1 h2
          have hq0 := (blkB_true.1 g1).1
          refine (reffind_4 b wd m r ce lg st k a ((a - 1) / wd) (offI wd a) w hrr hkk h1 h2 p0 p1 hq0 g1 g3 g4 g5 hR.wd0 hR.wd1 hR.b1).mono fun e w' h => ?_
          unfold RefPlace at h
          by_cases hin : offI wd a / sizI k < perI wd k
          · have hF : finB (rightB b wd m r ce lg st) b wd k a = true := finB_true.2 ⟨hA, hkk, hin⟩
            rw [show findV (rightB b wd m r ce lg st) b wd k a = ((a - 1) / wd, offI wd a / sizI k, offI wd a % sizI k) from if_pos hF, hF]
            rw [if_pos hin] at h
            exact h
          · have hF : finB (rightB b wd m r ce lg st) b wd k a = false := by rw [← Bool.not_eq_true, finB_true]; rintro ⟨_, _, h⟩; exact hin h
            rw [show findV (rightB b wd m r ce lg st) b wd k a = (0, 0, 0) from if_neg (by rw [hF]; decide), hF]
            rw [if_neg hin] at h
            exact h
        · have hF : finB (rightB b wd m r ce lg st) b wd k a = false := by rw [← Bool.not_eq_true, finB_true, adrB_true]; rintro ⟨⟨_, _, h⟩, _⟩; exact h2 h
          rw [show findV (rightB b wd m r ce lg st) b wd k a = (0, 0, 0) from if_neg (by rw [hF]; decide), hF]
          exact reffind_3 b wd m r ce lg st k a w hrr hkk h1 (by omega) p0 p1
      · have hF : finB (rightB b wd m r ce lg st) b wd k a = false := by rw [← Bool.not_eq_true, finB_true, adrB_true]; rintro ⟨⟨_, h, _⟩, _⟩; exact h1 h
        rw [show findV (rightB b wd m r ce lg st) b wd k a = (0, 0, 0) from if_neg (by rw [hF]; decide), hF]
        exact reffind_2 b wd m r ce lg st k a w hrr hkk (by omega)
    · have hkk : isB k = false := by simpa using hkk
      have hF : finB (rightB b wd m r ce lg st) b wd k a = false := by rw [← Bool.not_eq_true, finB_true]; simp [hkk]
      rw [show findV (rightB b wd m r ce lg st) b wd k a = (0, 0, 0) from if_neg (by rw [hF]; decide), hF]
      exact reffind_1 b wd m r ce lg st k a w hrr hkk
  · have hr : rightB b wd m r ce lg st = false := by simpa using hr
    have hF : finB (rightB b wd m r ce lg st) b wd k a = false := by rw [← Bool.not_eq_true, finB_true, adrB_true]; simp [hr]
    rw [show findV (rightB b wd m r ce lg st) b wd k a = (0, 0, 0) from if_neg (by rw [hF]; decide), hF]
    exact reffind_0 b wd m r ce lg st k a w ((rightB_ref b wd m r ce lg st).symm.trans hr)
end Go.Proofs.YtgmakcoodgpjlaaDoor.Addr
