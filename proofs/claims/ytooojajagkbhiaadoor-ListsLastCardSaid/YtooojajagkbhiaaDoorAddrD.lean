/-
  addr.Find, for every config, class and address.
-/
import Derived.Test.YtooojajagkbhiaaDoorAddrB
import Derived.StillTailTactics
namespace Go.Proofs.YtooojajagkbhiaaDoor.Addr
open Go.RowKit
open Class (quiet_add_left SizTab isB sizI perI isB_true isB_false sizI_bd sizI_no perI_yes perI_noC perI_noW wordsB wordsB_true per_any size_any is_any quiet_left below_drewN)

/-- A place that is told, and whether there is one. -/
def PlaceB (w : World) (x y z : Int) (ok : Bool) (e : Ending) (w' : World) : Prop := e = .returned (.tuple #[.agg #[.int .i64 x, .int .i64 y, .int .i64 z], .bool ok]) ∧ Below w.heap.size w w'

/-- How far into its block an address is. -/
def offI (wd a : Int) : Int := (a - 1) % wd
/-- Has an address a place? -/
def finB (R : Bool) (b wd k a : Int) : Bool := adrB R b wd a && (isB k && decide (offI wd a / sizI k < perI wd k))
theorem finB_true {R : Bool} {b wd k a : Int} : finB R b wd k a = true ↔ adrB R b wd a = true ∧ isB k = true ∧ offI wd a / sizI k < perI wd k := by simp [finB]

theorem adr_parts {b wd m r ce lg st a : Int} (hR : RightC b wd m r ce lg st) (h1 : 1 ≤ a) (h2 : a ≤ b * wd) :
    blkB b ((a - 1) / wd) = true ∧ 0 ≤ (a - 1) / wd * wd ∧ a = (a - 1) / wd * wd + 1 + offI wd a ∧ 0 ≤ offI wd a ∧ offI wd a < wd := by
  obtain ⟨b0, b1, wd0, wd1, m0, m1, r0, r1, ce0, ce1, lg0, lg1, st0, st1⟩ := hR
  have e1 := Int.emod_add_mul_ediv (a - 1) wd
  have e2 := Int.emod_nonneg (a - 1) (show wd ≠ 0 by omega)
  have e3 := Int.emod_lt_of_pos (a - 1) (show 0 < wd by omega)
  have e4 : 0 ≤ (a - 1) / wd := Int.ediv_nonneg (by omega) (by omega)
  have e5 : (a - 1) / wd < b := Int.ediv_lt_of_lt_mul (by omega) (by omega)
  have e6 : wd * ((a - 1) / wd) = (a - 1) / wd * wd := Int.mul_comm ..
  refine ⟨blkB_true.2 ⟨e4, e5⟩, Int.mul_nonneg e4 (by omega), ?_, e2, e3⟩
  unfold offI
  omega

set_option maxHeartbeats 2000000 in
theorem find_noA (b wd m r ce lg st k a : Int) (w : World) (ht : Tabs w) (hA : adrB (rightB b wd m r ce lg st) b wd a = false) :
    Calls Tryd.prog 35 #[.agg #[.int .i64 b, .int .i64 wd, .int .i64 m, .int .i64 r, .int .i64 ce, .int .i64 lg, .int .i64 st], .int .i64 k, .int .i64 a] w (PlaceB w 0 0 0 false) := by
  have HT := Lib.hid ht
  have HA := Lib.hid hA
  clear ht hA
  go_enter Tryd.func35, Tryd.ntmps35
  go_wp2_with fail
  refine (block_any _ _ _ _ _ _ _ _ _ (LimTab.alloc (LimTab.alloc HT.out.lim _) _)).mono ?_
  rintro e w1 ⟨rfl, hb⟩
  rw [HA.out]
  obtain ⟨hc, hf⟩ := bcell hb
  have hz : w.heap.size + 1 < w1.heap.size := by have := hb.size; simp at this; omega
  go_wp2
  exact bodyPost_ret (v := .tuple #[.agg #[.int .i64 0, .int .i64 0, .int .i64 0], .bool false]) (by simp [results, Tryd.results35, go_sem, hc]) rfl ⟨rfl, (((((((Below.refl _ _).alloc (Nat.le_refl _) _).alloc (by simp) _).trans (hb.mono (by simp; omega))).setCell (by simp) _).setCell (by simp) _).setCell (by simp) _)⟩

set_option maxHeartbeats 2000000 in
theorem find_noK (b wd m r ce lg st k a : Int) (w : World) (ht : Tabs w) (hA : adrB (rightB b wd m r ce lg st) b wd a = true) (hk : isB k = false) :
    Calls Tryd.prog 35 #[.agg #[.int .i64 b, .int .i64 wd, .int .i64 m, .int .i64 r, .int .i64 ce, .int .i64 lg, .int .i64 st], .int .i64 k, .int .i64 a] w (PlaceB w 0 0 0 false) := by
  have HT := Lib.hid ht
  have HA := Lib.hid hA
  clear ht hA
  go_enter Tryd.func35, Tryd.ntmps35
  go_wp2_with fail
  refine (block_any _ _ _ _ _ _ _ _ _ (LimTab.alloc (LimTab.alloc HT.out.lim _) _)).mono ?_
  rintro e w1 ⟨rfl, hb⟩
  rw [HA.out]
  obtain ⟨hc, hf⟩ := bcell hb
  have hz : w.heap.size + 1 < w1.heap.size := by have := hb.size; simp at this; omega
  go_wp2_with (go_at_call 50; refine (is_any _ _).mono ?_; rintro e w' ⟨rfl, rfl⟩; rw [hk])
  exact bodyPost_ret (v := .tuple #[.agg #[.int .i64 0, .int .i64 0, .int .i64 0], .bool false]) (by simp [results, Tryd.results35, go_sem, hc]) rfl ⟨rfl, (((((((Below.refl _ _).alloc (Nat.le_refl _) _).alloc (by simp) _).trans (hb.mono (by simp; omega))).setCell (by simp) _).setCell (by simp) _).setCell (by simp) _)⟩

theorem find_facts {b wd m r ce lg st k a : Int} (hA : adrB (rightB b wd m r ce lg st) b wd a = true) (hk : isB k = true) :
    ∃ q x : Int, blockI (rightB b wd m r ce lg st) b wd a = q ∧ firstI (rightB b wd m r ce lg st) b wd q = q * wd + 1 ∧ offI wd a = x ∧ a = q * wd + 1 + x ∧ 0 ≤ q * wd ∧ q * wd ≤ 1048576 ∧ 0 ≤ x ∧ x ≤ 256 ∧ 2 ≤ sizI k ∧ sizI k ≤ 16 ∧ 0 ≤ q := by
  obtain ⟨hr, h1, h2⟩ := adrB_true.1 hA
  have hR : RightC b wd m r ce lg st := refRightB_true.1 ((rightB_ref ..).symm.trans hr)
  obtain ⟨g1, g2, g3, g4, g5⟩ := adr_parts hR h1 h2
  obtain ⟨s0, s1⟩ := sizI_bd hk
  obtain ⟨p0, p1⟩ := first_bd hR g1
  have := hR.wd1
  exact ⟨(a - 1) / wd, offI wd a, blockI_yes hA, firstI_yes hr g1, rfl, g3, g2, p1, g4, by omega, s0, s1, (blkB_true.1 g1).1⟩

set_option maxHeartbeats 4000000 in
theorem find_yes (b wd m r ce lg st k a q x : Int) (w : World) (ht : Tabs w) (hA : adrB (rightB b wd m r ce lg st) b wd a = true) (hk : isB k = true)
    (hq : blockI (rightB b wd m r ce lg st) b wd a = q) (hfi : firstI (rightB b wd m r ce lg st) b wd q = q * wd + 1) (ha : a = q * wd + 1 + x) (q0 : 0 ≤ q * wd) (q1 : q * wd ≤ 1048576) (x0 : 0 ≤ x) (x1 : x ≤ 256) (s0 : 2 ≤ sizI k) (s1 : sizI k ≤ 16)
    (hin : x / sizI k < perI wd k) :
    Calls Tryd.prog 35 #[.agg #[.int .i64 b, .int .i64 wd, .int .i64 m, .int .i64 r, .int .i64 ce, .int .i64 lg, .int .i64 st], .int .i64 k, .int .i64 a] w (PlaceB w q (x / sizI k) (x % sizI k) true) := by
  have HT := Lib.hid ht
  have HA := Lib.hid hA
  have HQ := Lib.hid hq
  have HFI := Lib.hid hfi
  have a1 : 1 ≤ a := by omega
  have a2 : a ≤ 1048833 := by omega
  have e1 : a - (q * wd + 1) = x := by omega
  have hinb : decide (perI wd k ≤ x / sizI k) = false := by simp; omega
  have hsz : (sizI k == 0) = false := by simp; omega
  clear ht hA hq hfi ha hin
  go_enter Tryd.func35, Tryd.ntmps35
  go_wp2_with fail
  refine (block_any _ _ _ _ _ _ _ _ _ (LimTab.alloc (LimTab.alloc HT.out.lim _) _)).mono ?_
  rintro e w1 ⟨rfl, hb⟩
  rw [HA.out, HQ.out]
  obtain ⟨hc, hf⟩ := bcell hb
  have hz : w.heap.size + 1 < w1.heap.size := by have := hb.size; simp at this; omega
  have hlim1 : LimTab w1 := LimTab.later (LimTab.alloc (LimTab.alloc HT.out.lim _) _) hb
  have HL1 := Lib.hid hlim1
  clear hlim1
  go_wp2_with (first
    | (go_at_call 50; refine (is_any _ _).mono ?_; rintro e w' ⟨rfl, rfl⟩; rw [hk])
    | (go_at_call 53; refine (first_any _ _ _ _ _ _ _ _ _ HL1.out).mono ?_; rintro e w2 ⟨rfl, hb2⟩; rw [HFI.out]; obtain ⟨hc2, hf2⟩ := bcell hb2))
  have hz2 : w.heap.size + 1 < w2.heap.size := by have := hb2.size; omega
  have hs2 : SizTab w2 := SizTab.later (SizTab.later (SizTab.alloc (SizTab.alloc HT.out.siz _) _) hb) hb2
  have HS2 := Lib.hid hs2
  have hz1 : w.heap.size < w2.heap.size := by omega
  have hcw : w2.cell? ⟨w.heap.size, 1, none⟩ = some (.int .i64 wd) := by rw [hc2 _ _ (by omega), hc _ _ (by simp; omega)]; go_simp
  have r0 : w2.cell? ⟨w.heap.size + 1, 0, none⟩ = some (.int .i64 0) := by rw [hc2 _ _ (by omega), hc _ _ (by simp)]; go_simp
  have r1 : w2.cell? ⟨w.heap.size + 1, 1, none⟩ = some (.int .i64 0) := by rw [hc2 _ _ (by omega), hc _ _ (by simp)]; go_simp
  have r2 : w2.cell? ⟨w.heap.size + 1, 2, none⟩ = some (.int .i64 0) := by rw [hc2 _ _ (by omega), hc _ _ (by simp)]; go_simp
  have f0 : w2.frozen? ⟨w.heap.size + 1, 0, none⟩ = false := by rw [hf2 _ _ (by omega), hf _ _ (by simp)]; go_simp
  have f1 : w2.frozen? ⟨w.heap.size + 1, 1, none⟩ = false := by rw [hf2 _ _ (by omega), hf _ _ (by simp)]; go_simp
  have f2 : w2.frozen? ⟨w.heap.size + 1, 2, none⟩ = false := by rw [hf2 _ _ (by omega), hf _ _ (by simp)]; go_simp
  have HBB := Lib.hid (((((Below.refl _ w).alloc (Nat.le_refl _) _).alloc (by simp) _).trans (hb.mono (by simp; omega))).trans (hb2.mono (by omega)))
  clear hs2 hc hf hc2 hf2 hb hb2
  have hne : ¬ sizI k = 0 := by omega
  have et : x.tdiv (sizI k) = x / sizI k := Int.tdiv_eq_ediv_of_nonneg x0
  have em : x.tmod (sizI k) = x % sizI k := Int.tmod_eq_emod_of_nonneg x0
  have d0 : 0 ≤ x / sizI k := Int.ediv_nonneg x0 (by omega)
  have d1 : x / sizI k ≤ 256 := Int.le_trans (Int.ediv_le_self _ x0) x1
  have ew : IntKind.i64.wrap (x / sizI k) = x / sizI k := IntWalk.i64_in _ (by omega)
  go_region_held3 (fun w' => SizTab w') (first | exact HS2.out | exact SizTab.drew HS2.out | (repeat (first | exact HS2.out | apply SizTab.drewN | apply SizTab.drew | apply SizTab.alloc)))
    (first
      | (go_at_call 54; refine (size_any _ _ (by repeat (first | exact HS2.out | apply SizTab.drewN | apply SizTab.drew | apply SizTab.alloc))).mono ?_; rintro e w' ⟨rfl, rfl⟩))
  all_goals clear et em ew hne
  all_goals
    go_wp2
    go_quiet ((go_at_call 55; exact quiet_add_left (per_any _ _ _ (SizTab.drewN (SizTab.alloc HS2.out _) _))))
    go_wp2
    exact bodyPost_ret (v := .tuple #[.agg #[.int .i64 (q), .int .i64 (x / sizI k), .int .i64 (x % sizI k)], .bool true]) (by first | (simp [results, Tryd.results35, go_sem, r0, r1, r2, hz2]; done) | simp [results, Tryd.results35, go_sem, r0, r1, r2, hz2, Nat.ne_of_lt hz2]) rfl ⟨rfl, ((((below_drewN (HBB.out.alloc (by omega) _) _).setCell (by simp) _).setCell (by simp) _).setCell (by simp) _)⟩

set_option maxHeartbeats 4000000 in
theorem find_noS (b wd m r ce lg st k a q x : Int) (w : World) (ht : Tabs w) (hA : adrB (rightB b wd m r ce lg st) b wd a = true) (hk : isB k = true)
    (hq : blockI (rightB b wd m r ce lg st) b wd a = q) (hfi : firstI (rightB b wd m r ce lg st) b wd q = q * wd + 1) (ha : a = q * wd + 1 + x) (q0 : 0 ≤ q * wd) (q1 : q * wd ≤ 1048576) (x0 : 0 ≤ x) (x1 : x ≤ 256) (s0 : 2 ≤ sizI k) (s1 : sizI k ≤ 16)
    (hin : perI wd k ≤ x / sizI k) :
    Calls Tryd.prog 35 #[.agg #[.int .i64 b, .int .i64 wd, .int .i64 m, .int .i64 r, .int .i64 ce, .int .i64 lg, .int .i64 st], .int .i64 k, .int .i64 a] w (PlaceB w 0 0 0 false) := by
  have HT := Lib.hid ht
  have HA := Lib.hid hA
  have HQ := Lib.hid hq
  have HFI := Lib.hid hfi
  have a1 : 1 ≤ a := by omega
  have a2 : a ≤ 1048833 := by omega
  have e1 : a - (q * wd + 1) = x := by omega
  have hinb : decide (perI wd k ≤ x / sizI k) = true := by simp; omega
  have hsz : (sizI k == 0) = false := by simp; omega
  clear ht hA hq hfi ha hin
  go_enter Tryd.func35, Tryd.ntmps35
  go_wp2_with fail
  refine (block_any _ _ _ _ _ _ _ _ _ (LimTab.alloc (LimTab.alloc HT.out.lim _) _)).mono ?_
  rintro e w1 ⟨rfl, hb⟩
  rw [HA.out, HQ.out]
  obtain ⟨hc, hf⟩ := bcell hb
  have hz : w.heap.size + 1 < w1.heap.size := by have := hb.size; simp at this; omega
  have hlim1 : LimTab w1 := LimTab.later (LimTab.alloc (LimTab.alloc HT.out.lim _) _) hb
  have HL1 := Lib.hid hlim1
  clear hlim1
  go_wp2_with (first
    | (go_at_call 50; refine (is_any _ _).mono ?_; rintro e w' ⟨rfl, rfl⟩; rw [hk])
    | (go_at_call 53; refine (first_any _ _ _ _ _ _ _ _ _ HL1.out).mono ?_; rintro e w2 ⟨rfl, hb2⟩; rw [HFI.out]; obtain ⟨hc2, hf2⟩ := bcell hb2))
  have hz2 : w.heap.size + 1 < w2.heap.size := by have := hb2.size; omega
  have hs2 : SizTab w2 := SizTab.later (SizTab.later (SizTab.alloc (SizTab.alloc HT.out.siz _) _) hb) hb2
  have HS2 := Lib.hid hs2
  have hz1 : w.heap.size < w2.heap.size := by omega
  have hcw : w2.cell? ⟨w.heap.size, 1, none⟩ = some (.int .i64 wd) := by rw [hc2 _ _ (by omega), hc _ _ (by simp; omega)]; go_simp
  have r0 : w2.cell? ⟨w.heap.size + 1, 0, none⟩ = some (.int .i64 0) := by rw [hc2 _ _ (by omega), hc _ _ (by simp)]; go_simp
  have r1 : w2.cell? ⟨w.heap.size + 1, 1, none⟩ = some (.int .i64 0) := by rw [hc2 _ _ (by omega), hc _ _ (by simp)]; go_simp
  have r2 : w2.cell? ⟨w.heap.size + 1, 2, none⟩ = some (.int .i64 0) := by rw [hc2 _ _ (by omega), hc _ _ (by simp)]; go_simp
  have f0 : w2.frozen? ⟨w.heap.size + 1, 0, none⟩ = false := by rw [hf2 _ _ (by omega), hf _ _ (by simp)]; go_simp
  have f1 : w2.frozen? ⟨w.heap.size + 1, 1, none⟩ = false := by rw [hf2 _ _ (by omega), hf _ _ (by simp)]; go_simp
  have f2 : w2.frozen? ⟨w.heap.size + 1, 2, none⟩ = false := by rw [hf2 _ _ (by omega), hf _ _ (by simp)]; go_simp
  have HBB := Lib.hid (((((Below.refl _ w).alloc (Nat.le_refl _) _).alloc (by simp) _).trans (hb.mono (by simp; omega))).trans (hb2.mono (by omega)))
  clear hs2 hc hf hc2 hf2 hb hb2
  have hne : ¬ sizI k = 0 := by omega
  have et : x.tdiv (sizI k) = x / sizI k := Int.tdiv_eq_ediv_of_nonneg x0
  have em : x.tmod (sizI k) = x % sizI k := Int.tmod_eq_emod_of_nonneg x0
  have d0 : 0 ≤ x / sizI k := Int.ediv_nonneg x0 (by omega)
  have d1 : x / sizI k ≤ 256 := Int.le_trans (Int.ediv_le_self _ x0) x1
  have ew : IntKind.i64.wrap (x / sizI k) = x / sizI k := IntWalk.i64_in _ (by omega)
  go_region_held3 (fun w' => SizTab w') (first | exact HS2.out | exact SizTab.drew HS2.out | (repeat (first | exact HS2.out | apply SizTab.drewN | apply SizTab.drew | apply SizTab.alloc)))
    (first
      | (go_at_call 54; refine (size_any _ _ (by repeat (first | exact HS2.out | apply SizTab.drewN | apply SizTab.drew | apply SizTab.alloc))).mono ?_; rintro e w' ⟨rfl, rfl⟩))
  all_goals clear et em ew hne
  all_goals
    go_wp2
    go_quiet ((go_at_call 55; exact quiet_add_left (per_any _ _ _ (SizTab.drewN (SizTab.alloc HS2.out _) _))))
    go_wp2
    exact bodyPost_ret (v := .tuple #[.agg #[.int .i64 (0), .int .i64 (0), .int .i64 (0)], .bool false]) (by first | (simp [results, Tryd.results35, go_sem, r0, r1, r2, hz2]; done) | simp [results, Tryd.results35, go_sem, r0, r1, r2, hz2, Nat.ne_of_lt hz2]) rfl ⟨rfl, ((((below_drewN (HBB.out.alloc (by omega) _) _).setCell (by simp) _).setCell (by simp) _).setCell (by simp) _)⟩

/-- The place of an address. -/
def findV (R : Bool) (b wd k a : Int) : Int × Int × Int := if finB R b wd k a = true then ((a - 1) / wd, offI wd a / sizI k, offI wd a % sizI k) else (0, 0, 0)

theorem find_any (b wd m r ce lg st k a : Int) (w : World) (ht : Tabs w) :
    Calls Tryd.prog 35 #[.agg #[.int .i64 b, .int .i64 wd, .int .i64 m, .int .i64 r, .int .i64 ce, .int .i64 lg, .int .i64 st], .int .i64 k, .int .i64 a] w
      (PlaceB w (findV (rightB b wd m r ce lg st) b wd k a).1 (findV (rightB b wd m r ce lg st) b wd k a).2.1 (findV (rightB b wd m r ce lg st) b wd k a).2.2 (finB (rightB b wd m r ce lg st) b wd k a)) := by
  by_cases hA : adrB (rightB b wd m r ce lg st) b wd a = true
  · by_cases hk : isB k = true
    · obtain ⟨q, x, hq, hfi, hx, ha, q0, q1, x0, x1, s0, s1, _⟩ := find_facts hA hk
      by_cases hin : x / sizI k < perI wd k
      · have hF : finB (rightB b wd m r ce lg st) b wd k a = true := finB_true.2 ⟨hA, hk, hx ▸ hin⟩
        rw [show findV (rightB b wd m r ce lg st) b wd k a = (q, x / sizI k, x % sizI k) from (if_pos hF).trans (by rw [hx, ← hq, blockI_yes hA]), hF]
        exact find_yes b wd m r ce lg st k a q x w ht hA hk hq hfi ha q0 q1 x0 x1 s0 s1 hin
      · have hF : finB (rightB b wd m r ce lg st) b wd k a = false := by rw [← Bool.not_eq_true, finB_true]; rintro ⟨_, _, h⟩; exact hin (hx ▸ h)
        rw [show findV (rightB b wd m r ce lg st) b wd k a = (0, 0, 0) from if_neg (by rw [hF]; decide), hF]
        exact find_noS b wd m r ce lg st k a q x w ht hA hk hq hfi ha q0 q1 x0 x1 s0 s1 (by omega)
    · have hk : isB k = false := by simpa using hk
      have hF : finB (rightB b wd m r ce lg st) b wd k a = false := by rw [← Bool.not_eq_true, finB_true]; simp [hk]
      rw [show findV (rightB b wd m r ce lg st) b wd k a = (0, 0, 0) from if_neg (by rw [hF]; decide), hF]
      exact find_noK b wd m r ce lg st k a w ht hA hk
  · have hA : adrB (rightB b wd m r ce lg st) b wd a = false := by simpa using hA
    have hF : finB (rightB b wd m r ce lg st) b wd k a = false := by rw [← Bool.not_eq_true, finB_true]; simp [hA]
    rw [show findV (rightB b wd m r ce lg st) b wd k a = (0, 0, 0) from if_neg (by rw [hF]; decide), hF]
    exact find_noA b wd m r ce lg st k a w ht hA
end Go.Proofs.YtooojajagkbhiaaDoor.Addr
