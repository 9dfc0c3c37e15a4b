/-
  The law ConfigGrows answers true, for every two configs and every k, wherever the table of limits lies as it was laid.
-/
import Derived.Test.YtahhenbphnejiaaDoorConfigH
namespace Go.Proofs.YtahhenbphnejiaaDoor
open Go.RowKit

theorem nearI_in (n lo hi : Int) (h : lo ≤ hi) : lo ≤ nearI n lo hi ∧ nearI n lo hi ≤ hi := by
  unfold nearI
  (repeat' split) <;> omega
theorem rightC_clamp (b wd m r ce lg st : Int) : RightC (clampAt 0 b) (clampAt 1 wd) (clampAt 2 m) (clampAt 3 r) (clampAt 4 ce) (clampAt 5 lg) (clampAt 6 st) :=
  ⟨(nearI_in b 1 4096 (by decide)).1, (nearI_in b 1 4096 (by decide)).2, (nearI_in wd 16 256 (by decide)).1, (nearI_in wd 16 256 (by decide)).2, (nearI_in m 1 8 (by decide)).1, (nearI_in m 1 8 (by decide)).2, (nearI_in r 1 64 (by decide)).1, (nearI_in r 1 64 (by decide)).2, (nearI_in ce 0 64 (by decide)).1, (nearI_in ce 0 64 (by decide)).2, (nearI_in lg 1 256 (by decide)).1, (nearI_in lg 1 256 (by decide)).2, (nearI_in st 1 4096 (by decide)).1, (nearI_in st 1 4096 (by decide)).2⟩
theorem rightC_right {b wd m r ce lg st : Int} (h : RightC b wd m r ce lg st) : rightB b wd m r ce lg st = true := by
  rw [rightB_ref]; exact refRightB_true.2 h
theorem Marking_r (b wd m r ce lg st k : Int) (w : World) (ht : LimTab w) (hR : RightC b wd m r ce lg st) :
    Calls Tryd.prog 41 #[.agg #[.int .i64 b, .int .i64 wd, .int .i64 m, .int .i64 r, .int .i64 ce, .int .i64 lg, .int .i64 st], .int .i64 k] w fun e w' => e = .returned (.int .i64 (timesI k (markI b wd m r ce lg))) ∧ Below w.heap.size w w' :=
  Marking_yes _ _ _ _ _ _ _ _ _ ht hR (rightC_right hR)
theorem Cycle_r (b wd m r ce lg st k : Int) (w : World) (ht : LimTab w) (hR : RightC b wd m r ce lg st) :
    Calls Tryd.prog 42 #[.agg #[.int .i64 b, .int .i64 wd, .int .i64 m, .int .i64 r, .int .i64 ce, .int .i64 lg, .int .i64 st], .int .i64 k] w fun e w' => e = .returned (.int .i64 (timesI k (markI b wd m r ce lg + restI b wd m r lg))) ∧ Below w.heap.size w w' :=
  Cycle_yes _ _ _ _ _ _ _ _ _ ht hR (rightC_right hR)

set_option maxRecDepth 100000 in
set_option maxHeartbeats 16000000 in
theorem configGrows_any (b wd m r ce lg st b' wd' m' r' ce' lg' st' k : Int) (w : World) (ht : LimTab w) :
    Calls Tryd.prog 10 #[.agg #[.int .i64 b, .int .i64 wd, .int .i64 m, .int .i64 r, .int .i64 ce, .int .i64 lg, .int .i64 st], .agg #[.int .i64 b', .int .i64 wd', .int .i64 m', .int .i64 r', .int .i64 ce', .int .i64 lg', .int .i64 st'], .int .i64 k] w fun e w' => e = .returned (.bool true) ∧ Below w.heap.size w w' := by
  obtain ⟨c0, hc0⟩ : ∃ c, (if (clampAt 0 b) < (clampAt 0 b') then (clampAt 0 b') else (clampAt 0 b)) = c := ⟨_, rfl⟩
  have hp0 : (clampAt 0 b) ≤ c0 ∧ (clampAt 0 b') ≤ c0 ∧ (c0 = (clampAt 0 b) ∨ c0 = (clampAt 0 b')) := by rw [← hc0]; split <;> omega
  obtain ⟨c1, hc1⟩ : ∃ c, (if (clampAt 1 wd) < (clampAt 1 wd') then (clampAt 1 wd') else (clampAt 1 wd)) = c := ⟨_, rfl⟩
  have hp1 : (clampAt 1 wd) ≤ c1 ∧ (clampAt 1 wd') ≤ c1 ∧ (c1 = (clampAt 1 wd) ∨ c1 = (clampAt 1 wd')) := by rw [← hc1]; split <;> omega
  obtain ⟨c2, hc2⟩ : ∃ c, (if (clampAt 2 m) < (clampAt 2 m') then (clampAt 2 m') else (clampAt 2 m)) = c := ⟨_, rfl⟩
  have hp2 : (clampAt 2 m) ≤ c2 ∧ (clampAt 2 m') ≤ c2 ∧ (c2 = (clampAt 2 m) ∨ c2 = (clampAt 2 m')) := by rw [← hc2]; split <;> omega
  obtain ⟨c3, hc3⟩ : ∃ c, (if (clampAt 3 r) < (clampAt 3 r') then (clampAt 3 r') else (clampAt 3 r)) = c := ⟨_, rfl⟩
  have hp3 : (clampAt 3 r) ≤ c3 ∧ (clampAt 3 r') ≤ c3 ∧ (c3 = (clampAt 3 r) ∨ c3 = (clampAt 3 r')) := by rw [← hc3]; split <;> omega
  obtain ⟨c4, hc4⟩ : ∃ c, (if (clampAt 4 ce) < (clampAt 4 ce') then (clampAt 4 ce') else (clampAt 4 ce)) = c := ⟨_, rfl⟩
  have hp4 : (clampAt 4 ce) ≤ c4 ∧ (clampAt 4 ce') ≤ c4 ∧ (c4 = (clampAt 4 ce) ∨ c4 = (clampAt 4 ce')) := by rw [← hc4]; split <;> omega
  obtain ⟨c5, hc5⟩ : ∃ c, (if (clampAt 5 lg) < (clampAt 5 lg') then (clampAt 5 lg') else (clampAt 5 lg)) = c := ⟨_, rfl⟩
  have hp5 : (clampAt 5 lg) ≤ c5 ∧ (clampAt 5 lg') ≤ c5 ∧ (c5 = (clampAt 5 lg) ∨ c5 = (clampAt 5 lg')) := by rw [← hc5]; split <;> omega
  obtain ⟨c6, hc6⟩ : ∃ c, (if (clampAt 6 st) < (clampAt 6 st') then (clampAt 6 st') else (clampAt 6 st)) = c := ⟨_, rfl⟩
  have hp6 : (clampAt 6 st) ≤ c6 ∧ (clampAt 6 st') ≤ c6 ∧ (c6 = (clampAt 6 st) ∨ c6 = (clampAt 6 st')) := by rw [← hc6]; split <;> omega
  have hRA := rightC_clamp b wd m r ce lg st
  have hRB := rightC_clamp b' wd' m' r' ce' lg' st'
  have hRC : RightC c0 c1 c2 c3 c4 c5 c6 := by
    constructor <;> first
      | exact Int.le_trans hRA.b0 hp0.1
      | exact Int.le_trans hRA.wd0 hp1.1
      | exact Int.le_trans hRA.m0 hp2.1
      | exact Int.le_trans hRA.r0 hp3.1
      | exact Int.le_trans hRA.ce0 hp4.1
      | exact Int.le_trans hRA.lg0 hp5.1
      | exact Int.le_trans hRA.st0 hp6.1
      | (have h1 := hRA.b1; have h2 := hRB.b1; omega)
      | (have h1 := hRA.wd1; have h2 := hRB.wd1; omega)
      | (have h1 := hRA.m1; have h2 := hRB.m1; omega)
      | (have h1 := hRA.r1; have h2 := hRB.r1; omega)
      | (have h1 := hRA.ce1; have h2 := hRB.ce1; omega)
      | (have h1 := hRA.lg1; have h2 := hRB.lg1; omega)
      | (have h1 := hRA.st1; have h2 := hRB.st1; omega)
  have g1 : timesI k (markI (clampAt 0 b) (clampAt 1 wd) (clampAt 2 m) (clampAt 3 r) (clampAt 4 ce) (clampAt 5 lg)) ≤ timesI k (markI c0 c1 c2 c3 c4 c5) := timesI_mono (by have := hRA.mark; omega) (mark_mono hRA hRC hp0.1 hp1.1 hp2.1 hp3.1 hp4.1 hp5.1)
  have g2 : timesI k (markI (clampAt 0 b') (clampAt 1 wd') (clampAt 2 m') (clampAt 3 r') (clampAt 4 ce') (clampAt 5 lg') + restI (clampAt 0 b') (clampAt 1 wd') (clampAt 2 m') (clampAt 3 r') (clampAt 5 lg')) ≤ timesI k (markI c0 c1 c2 c3 c4 c5 + restI c0 c1 c2 c3 c5) :=
    timesI_mono (by have := hRB.mark; have := hRB.restB; omega) (Int.add_le_add (mark_mono hRB hRC hp0.2.1 hp1.2.1 hp2.2.1 hp3.2.1 hp4.2.1 hp5.2.1) (rest_mono hRB hRC hp0.2.1 hp1.2.1 hp2.2.1 hp3.2.1 hp5.2.1))
  have g3 : timesI k (markI c0 c1 c2 c3 c4 c5) ≤ timesI k (markI c0 c1 c2 c3 c4 c5 + restI c0 c1 c2 c3 c5) := timesI_mono (by have := hRC.mark; omega) (by have := hRC.restB; omega)
  have hr3 := rightC_right hRC
  have HRA := Lib.hid hRA
  have HRB := Lib.hid hRB
  have HRC := Lib.hid hRC
  clear hRA hRB hRC hp0 hp1 hp2 hp3 hp4 hp5 hp6
  go_enter Tryd.func10, Tryd.ntmps10
  go_wp2
  go_region_with (go_at_call 31; refine (clamp_any _ _ _ _ _ _ _ _ (by repeat (first | exact ht | apply LimTab.drewN | apply LimTab.drew | apply LimTab.alloc | (refine LimTab.later ?_ (by assumption)) | assumption))).mono ?_; rintro e w0 ⟨rfl, hb0⟩; simp only [clampV]; have hz : w.heap.size + 1 < w0.heap.size := (by have := hb0.size; first | omega | (simp at this; omega)); have hB : Below w.heap.size w w0 := Below.trans (by first | assumption | exact below_drew (by assumption) | exact below_drew (((Below.refl _ _).alloc (Nat.le_refl _) _).alloc (by simp) _)) (hb0.mono (by first | omega | (simp; omega))); have hka : ∀ o, w0.cell? ⟨w.heap.size, o, none⟩ = World.cell? _ ⟨w.heap.size, o, none⟩ := fun o => hb0.cell (p := ⟨w.heap.size, o, none⟩) (by first | omega | (simp; done) | (simp; omega)); have hkb : ∀ o, w0.cell? ⟨w.heap.size + 1, o, none⟩ = World.cell? _ ⟨w.heap.size + 1, o, none⟩ := fun o => hb0.cell (p := ⟨w.heap.size + 1, o, none⟩) (by first | omega | (simp; done) | (simp; omega)); have hkc : ∀ o, w0.frozen? ⟨w.heap.size, o, none⟩ = World.frozen? _ ⟨w.heap.size, o, none⟩ := fun o => hb0.frozen (p := ⟨w.heap.size, o, none⟩) (by first | omega | (simp; done) | (simp; omega)); have hkd : ∀ o, w0.frozen? ⟨w.heap.size + 1, o, none⟩ = World.frozen? _ ⟨w.heap.size + 1, o, none⟩ := fun o => hb0.frozen (p := ⟨w.heap.size + 1, o, none⟩) (by first | omega | (simp; done) | (simp; omega)))
  all_goals
    go_wp2_with fail
    clear hc0 hc1 hc2 hc3 hc4 hc5 hc6
    have hz0 : w.heap.size < w0.heap.size := by omega
    generalize hW : World.alloc _ _ = W
    have hWa : W.cell? ⟨w.heap.size, 0, none⟩ = some (.int .i64 (clampAt 0 b)) ∧ W.cell? ⟨w.heap.size, 1, none⟩ = some (.int .i64 (clampAt 1 wd)) ∧ W.cell? ⟨w.heap.size, 2, none⟩ = some (.int .i64 (clampAt 2 m)) ∧ W.cell? ⟨w.heap.size, 3, none⟩ = some (.int .i64 (clampAt 3 r)) ∧ W.cell? ⟨w.heap.size, 4, none⟩ = some (.int .i64 (clampAt 4 ce)) ∧ W.cell? ⟨w.heap.size, 5, none⟩ = some (.int .i64 (clampAt 5 lg)) ∧ W.cell? ⟨w.heap.size, 6, none⟩ = some (.int .i64 (clampAt 6 st)) := by
      rw [← hW]; clear hW; go_simp
    have hWb : W.cell? ⟨w.heap.size + 1, 0, none⟩ = some (.int .i64 (clampAt 0 b')) ∧ W.cell? ⟨w.heap.size + 1, 1, none⟩ = some (.int .i64 (clampAt 1 wd')) ∧ W.cell? ⟨w.heap.size + 1, 2, none⟩ = some (.int .i64 (clampAt 2 m')) ∧ W.cell? ⟨w.heap.size + 1, 3, none⟩ = some (.int .i64 (clampAt 3 r')) ∧ W.cell? ⟨w.heap.size + 1, 4, none⟩ = some (.int .i64 (clampAt 4 ce')) ∧ W.cell? ⟨w.heap.size + 1, 5, none⟩ = some (.int .i64 (clampAt 5 lg')) ∧ W.cell? ⟨w.heap.size + 1, 6, none⟩ = some (.int .i64 (clampAt 6 st')) := by
      rw [← hW]; clear hW; go_simp
    have hWc : W.cell? ⟨w0.heap.size, 0, none⟩ = some (.int .i64 c0) ∧ W.cell? ⟨w0.heap.size, 1, none⟩ = some (.int .i64 c1) ∧ W.cell? ⟨w0.heap.size, 2, none⟩ = some (.int .i64 c2) ∧ W.cell? ⟨w0.heap.size, 3, none⟩ = some (.int .i64 c3) ∧ W.cell? ⟨w0.heap.size, 4, none⟩ = some (.int .i64 c4) ∧ W.cell? ⟨w0.heap.size, 5, none⟩ = some (.int .i64 c5) ∧ W.cell? ⟨w0.heap.size, 6, none⟩ = some (.int .i64 c6) := by
      rw [← hW]; clear hW; go_simp
    have hsz : w0.heap.size < W.heap.size := by rw [← hW]; clear hW; simp
    have hBW : Below w.heap.size w W := by
      rw [← hW]
      have hbase : Below w.heap.size w w0 := by assumption
      exact ((((((((((((((hbase.setCell (by simp) _).setCell (by simp) _).setCell (by simp) _).setCell (by simp) _).setCell (by simp) _).setCell (by simp) _).setCell (by simp) _).setCell (by simp) _).setCell (by simp) _).setCell (by simp) _).setCell (by simp) _).setCell (by simp) _).setCell (by simp) _).setCell (by simp) _).alloc (by simp; omega) _
    have htW : LimTab W := ht.later hBW
    have hWabc : W.cell? ⟨w.heap.size, 0, none⟩ = some (.int .i64 (clampAt 0 b)) ∧ W.cell? ⟨w.heap.size, 1, none⟩ = some (.int .i64 (clampAt 1 wd)) ∧ W.cell? ⟨w.heap.size, 2, none⟩ = some (.int .i64 (clampAt 2 m)) ∧ W.cell? ⟨w.heap.size, 3, none⟩ = some (.int .i64 (clampAt 3 r)) ∧ W.cell? ⟨w.heap.size, 4, none⟩ = some (.int .i64 (clampAt 4 ce)) ∧ W.cell? ⟨w.heap.size, 5, none⟩ = some (.int .i64 (clampAt 5 lg)) ∧ W.cell? ⟨w.heap.size, 6, none⟩ = some (.int .i64 (clampAt 6 st)) ∧ W.cell? ⟨w.heap.size + 1, 0, none⟩ = some (.int .i64 (clampAt 0 b')) ∧ W.cell? ⟨w.heap.size + 1, 1, none⟩ = some (.int .i64 (clampAt 1 wd')) ∧ W.cell? ⟨w.heap.size + 1, 2, none⟩ = some (.int .i64 (clampAt 2 m')) ∧ W.cell? ⟨w.heap.size + 1, 3, none⟩ = some (.int .i64 (clampAt 3 r')) ∧ W.cell? ⟨w.heap.size + 1, 4, none⟩ = some (.int .i64 (clampAt 4 ce')) ∧ W.cell? ⟨w.heap.size + 1, 5, none⟩ = some (.int .i64 (clampAt 5 lg')) ∧ W.cell? ⟨w.heap.size + 1, 6, none⟩ = some (.int .i64 (clampAt 6 st')) ∧ W.cell? ⟨w0.heap.size, 0, none⟩ = some (.int .i64 c0) ∧ W.cell? ⟨w0.heap.size, 1, none⟩ = some (.int .i64 c1) ∧ W.cell? ⟨w0.heap.size, 2, none⟩ = some (.int .i64 c2) ∧ W.cell? ⟨w0.heap.size, 3, none⟩ = some (.int .i64 c3) ∧ W.cell? ⟨w0.heap.size, 4, none⟩ = some (.int .i64 c4) ∧ W.cell? ⟨w0.heap.size, 5, none⟩ = some (.int .i64 c5) ∧ W.cell? ⟨w0.heap.size, 6, none⟩ = some (.int .i64 c6) := by
      obtain ⟨x0, x1, x2, x3, x4, x5, x6⟩ := hWa
      obtain ⟨y0, y1, y2, y3, y4, y5, y6⟩ := hWb
      obtain ⟨z0, z1, z2, z3, z4, z5, z6⟩ := hWc
      exact ⟨x0, x1, x2, x3, x4, x5, x6, y0, y1, y2, y3, y4, y5, y6, z0, z1, z2, z3, z4, z5, z6⟩
    obtain ⟨x0, x1, x2, x3, x4, x5, x6, y0, y1, y2, y3, y4, y5, y6, z0, z1, z2, z3, z4, z5, z6⟩ := hWabc
    clear hWa hWb hWc hW hka hkb hkc hkd hB
    go_region_held3 (fun w' => w'.cell? ⟨w.heap.size, 0, none⟩ = some (.int .i64 (clampAt 0 b)) ∧ w'.cell? ⟨w.heap.size, 1, none⟩ = some (.int .i64 (clampAt 1 wd)) ∧ w'.cell? ⟨w.heap.size, 2, none⟩ = some (.int .i64 (clampAt 2 m)) ∧ w'.cell? ⟨w.heap.size, 3, none⟩ = some (.int .i64 (clampAt 3 r)) ∧ w'.cell? ⟨w.heap.size, 4, none⟩ = some (.int .i64 (clampAt 4 ce)) ∧ w'.cell? ⟨w.heap.size, 5, none⟩ = some (.int .i64 (clampAt 5 lg)) ∧ w'.cell? ⟨w.heap.size, 6, none⟩ = some (.int .i64 (clampAt 6 st)) ∧ w'.cell? ⟨w.heap.size + 1, 0, none⟩ = some (.int .i64 (clampAt 0 b')) ∧ w'.cell? ⟨w.heap.size + 1, 1, none⟩ = some (.int .i64 (clampAt 1 wd')) ∧ w'.cell? ⟨w.heap.size + 1, 2, none⟩ = some (.int .i64 (clampAt 2 m')) ∧ w'.cell? ⟨w.heap.size + 1, 3, none⟩ = some (.int .i64 (clampAt 3 r')) ∧ w'.cell? ⟨w.heap.size + 1, 4, none⟩ = some (.int .i64 (clampAt 4 ce')) ∧ w'.cell? ⟨w.heap.size + 1, 5, none⟩ = some (.int .i64 (clampAt 5 lg')) ∧ w'.cell? ⟨w.heap.size + 1, 6, none⟩ = some (.int .i64 (clampAt 6 st')) ∧ w'.cell? ⟨w0.heap.size, 0, none⟩ = some (.int .i64 c0) ∧ w'.cell? ⟨w0.heap.size, 1, none⟩ = some (.int .i64 c1) ∧ w'.cell? ⟨w0.heap.size, 2, none⟩ = some (.int .i64 c2) ∧ w'.cell? ⟨w0.heap.size, 3, none⟩ = some (.int .i64 c3) ∧ w'.cell? ⟨w0.heap.size, 4, none⟩ = some (.int .i64 c4) ∧ w'.cell? ⟨w0.heap.size, 5, none⟩ = some (.int .i64 c5) ∧ w'.cell? ⟨w0.heap.size, 6, none⟩ = some (.int .i64 c6)) (go_keep)
      (first
        | (go_at_call 29; refine (right_any _ _ _ _ _ _ _ _ (by repeat (first | assumption | apply LimTab.drew | (refine LimTab.later ?_ (by assumption))))).mono ?_; rintro e wn ⟨rfl, hbn⟩; rw [hr3]; have hzn : w0.heap.size < wn.heap.size := (by have := hbn.size; first | omega | (simp at this; omega)); have hBn : Below w.heap.size w wn := Below.trans (by first | assumption | (exact below_drew (by assumption))) (hbn.mono (by first | omega | (simp; omega))); have hq0 : ∀ o, wn.cell? ⟨w.heap.size, o, none⟩ = World.cell? _ ⟨w.heap.size, o, none⟩ := fun o => hbn.cell (p := ⟨w.heap.size, o, none⟩) (by first | omega | (simp; omega)); have hq1 : ∀ o, wn.cell? ⟨w.heap.size + 1, o, none⟩ = World.cell? _ ⟨w.heap.size + 1, o, none⟩ := fun o => hbn.cell (p := ⟨w.heap.size + 1, o, none⟩) (by first | omega | (simp; omega)); have hq2 : ∀ o, wn.cell? ⟨w0.heap.size, o, none⟩ = World.cell? _ ⟨w0.heap.size, o, none⟩ := fun o => hbn.cell (p := ⟨w0.heap.size, o, none⟩) (by first | omega | (simp; omega)))
        | (go_at_call 41; refine (Marking_r _ _ _ _ _ _ _ _ _ (by repeat (first | assumption | apply LimTab.drew | (refine LimTab.later ?_ (by assumption)))) (by first | exact HRC.out | exact HRA.out)).mono ?_; rintro e wn ⟨rfl, hbn⟩; have hzn : w0.heap.size < wn.heap.size := (by have := hbn.size; first | omega | (simp at this; omega)); have hBn : Below w.heap.size w wn := Below.trans (by first | assumption | (exact below_drew (by assumption))) (hbn.mono (by first | omega | (simp; omega))); have hq0 : ∀ o, wn.cell? ⟨w.heap.size, o, none⟩ = World.cell? _ ⟨w.heap.size, o, none⟩ := fun o => hbn.cell (p := ⟨w.heap.size, o, none⟩) (by first | omega | (simp; omega)); have hq1 : ∀ o, wn.cell? ⟨w.heap.size + 1, o, none⟩ = World.cell? _ ⟨w.heap.size + 1, o, none⟩ := fun o => hbn.cell (p := ⟨w.heap.size + 1, o, none⟩) (by first | omega | (simp; omega)); have hq2 : ∀ o, wn.cell? ⟨w0.heap.size, o, none⟩ = World.cell? _ ⟨w0.heap.size, o, none⟩ := fun o => hbn.cell (p := ⟨w0.heap.size, o, none⟩) (by first | omega | (simp; omega)))
        | (go_at_call 42; refine (Cycle_r _ _ _ _ _ _ _ _ _ (by repeat (first | assumption | apply LimTab.drew | (refine LimTab.later ?_ (by assumption)))) (by first | exact HRC.out | exact HRB.out)).mono ?_; rintro e wn ⟨rfl, hbn⟩; have hzn : w0.heap.size < wn.heap.size := (by have := hbn.size; first | omega | (simp at this; omega)); have hBn : Below w.heap.size w wn := Below.trans (by first | assumption | (exact below_drew (by assumption))) (hbn.mono (by first | omega | (simp; omega))); have hq0 : ∀ o, wn.cell? ⟨w.heap.size, o, none⟩ = World.cell? _ ⟨w.heap.size, o, none⟩ := fun o => hbn.cell (p := ⟨w.heap.size, o, none⟩) (by first | omega | (simp; omega)); have hq1 : ∀ o, wn.cell? ⟨w.heap.size + 1, o, none⟩ = World.cell? _ ⟨w.heap.size + 1, o, none⟩ := fun o => hbn.cell (p := ⟨w.heap.size + 1, o, none⟩) (by first | omega | (simp; omega)); have hq2 : ∀ o, wn.cell? ⟨w0.heap.size, o, none⟩ = World.cell? _ ⟨w0.heap.size, o, none⟩ := fun o => hbn.cell (p := ⟨w0.heap.size, o, none⟩) (by first | omega | (simp; omega)))
        | (go_at_call 37; refine (awake2_any _ (by repeat (first | assumption | apply LimTab.drew | (refine LimTab.later ?_ (by assumption))))).mono ?_; rintro e wn ⟨rfl, hbn⟩; have hzn : w0.heap.size < wn.heap.size := (by have := hbn.size; first | omega | (simp at this; omega)); have hBn : Below w.heap.size w wn := Below.trans (by first | assumption | (exact below_drew (by assumption))) (hbn.mono (by first | omega | (simp; omega))); have hq0 : ∀ o, wn.cell? ⟨w.heap.size, o, none⟩ = World.cell? _ ⟨w.heap.size, o, none⟩ := fun o => hbn.cell (p := ⟨w.heap.size, o, none⟩) (by first | omega | (simp; omega)); have hq1 : ∀ o, wn.cell? ⟨w.heap.size + 1, o, none⟩ = World.cell? _ ⟨w.heap.size + 1, o, none⟩ := fun o => hbn.cell (p := ⟨w.heap.size + 1, o, none⟩) (by first | omega | (simp; omega)); have hq2 : ∀ o, wn.cell? ⟨w0.heap.size, o, none⟩ = World.cell? _ ⟨w0.heap.size, o, none⟩ := fun o => hbn.cell (p := ⟨w0.heap.size, o, none⟩) (by first | omega | (simp; omega))))
    rename_i hheld
    clear hheld
    go_wp2
    go_ret
    exact ⟨rfl, by assumption⟩
end Go.Proofs.YtahhenbphnejiaaDoor
