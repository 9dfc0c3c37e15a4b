/-
  The laws ConfigRight and ConfigBounds answer true, for every seven numbers and every k, wherever the table of limits lies as it was laid.
-/
import Derived.Test.YtahhenbphnejiaaDoorConfigG
namespace Go.Proofs.YtahhenbphnejiaaDoor
open Go.RowKit

theorem run_neq_cfg (b wd m r ce lg st : Int) (w : World) :
    (binOp .neq 53 (.agg #[.int .i64 b, .int .i64 wd, .int .i64 m, .int .i64 r, .int .i64 ce, .int .i64 lg, .int .i64 st]) (.agg #[.int .i64 b, .int .i64 wd, .int .i64 m, .int .i64 r, .int .i64 ce, .int .i64 lg, .int .i64 st])).run Tryd.prog w
      = .ok (.bool false) w := by
  have hp : Tryd.prog.stoodInHeld 53 = false := by kernel_rfl
  have hu := Tryd.underlying53
  have h3 := Tryd.underlying3
  have c3 : Tryd.prog.cellsOf 3 = 1 := by kernel_rfl
  rw [run_neq_struct, run_equalIn_agg _ _ _ _ _ (by unfold Program.fieldsOf; rw [hu]) hp]
  unfold Program.fieldsOf
  rw [hu]
  simp only [Op.eqFields]
  simp [go_sem, h3, part]

set_option maxHeartbeats 4000000 in
theorem configRight_no (b wd m r ce lg st : Int) (w : World) (ht : LimTab w) (hr : rightB b wd m r ce lg st = false) (hrr : refRightB b wd m r ce lg st = false) :
    Calls Tryd.prog 8 #[.agg #[.int .i64 b, .int .i64 wd, .int .i64 m, .int .i64 r, .int .i64 ce, .int .i64 lg, .int .i64 st]] w fun e w' => e = .returned (.bool true) ∧ Below w.heap.size w w' := by
  have hq := fun w => run_neq_cfg (clampAt 0 b) (clampAt 1 wd) (clampAt 2 m) (clampAt 3 r) (clampAt 4 ce) (clampAt 5 lg) (clampAt 6 st) w
  have hgd := guardCfg
  go_enter Tryd.func8, Tryd.ntmps8
  go_wp2
  go_region_held3 (fun w' => w'.cell? ⟨w.heap.size, 0, none⟩ = some (.int .i64 b) ∧ w'.cell? ⟨w.heap.size, 1, none⟩ = some (.int .i64 wd) ∧ w'.cell? ⟨w.heap.size, 2, none⟩ = some (.int .i64 m)
     ∧ w'.cell? ⟨w.heap.size, 3, none⟩ = some (.int .i64 r) ∧ w'.cell? ⟨w.heap.size, 4, none⟩ = some (.int .i64 ce) ∧ w'.cell? ⟨w.heap.size, 5, none⟩ = some (.int .i64 lg) ∧ w'.cell? ⟨w.heap.size, 6, none⟩ = some (.int .i64 st)) (go_keep)
    (first
      | (go_at_call 29; refine (right_any _ _ _ _ _ _ _ _ (by repeat (first | exact ht | apply LimTab.drewN | apply LimTab.drew | apply LimTab.alloc | (refine LimTab.later ?_ (by assumption))))).mono ?_; rintro e w0 ⟨rfl, hb0⟩; rw [hr]; have hz0 : w.heap.size < w0.heap.size := (by have := hb0.size; first | omega | (simp at this; omega)); have hk0 : ∀ o, w0.cell? ⟨w.heap.size, o, none⟩ = (w.alloc _).cell? ⟨w.heap.size, o, none⟩ := fun o => hb0.cell (p := ⟨w.heap.size, o, none⟩) (by simp))
      | (go_at_call 30; refine (refright_any _ _ _ _ _ _ _ _).mono ?_; rintro e w1 ⟨rfl, hb1⟩; rw [hrr]; have hz1 : w.heap.size < w1.heap.size := (by have := hb1.size; first | omega | (simp at this; omega)); have hk1 : ∀ o, w1.cell? ⟨w.heap.size, o, none⟩ = w0.cell? ⟨w.heap.size, o, none⟩ := fun o => hb1.cell (p := ⟨w.heap.size, o, none⟩) hz0)
      | (go_at_call 31; refine (clamp_any _ _ _ _ _ _ _ _ (by repeat (first | exact ht | apply LimTab.drewN | apply LimTab.drew | apply LimTab.alloc | (refine LimTab.later ?_ (by assumption))))).mono ?_; rintro e w2 ⟨rfl, hb2⟩; simp only [clampV]; have hz2 : w.heap.size < w2.heap.size := (by have := hb2.size; first | omega | (simp at this; omega)); have hk2 : ∀ o, w2.cell? ⟨w.heap.size, o, none⟩ = w1.cell? ⟨w.heap.size, o, none⟩ := fun o => hb2.cell (p := ⟨w.heap.size, o, none⟩) hz1)
      | (go_at_call 32; refine (refclamp_any _ _ _ _ _ _ _ _).mono ?_; rintro e w3 ⟨rfl, hb3⟩; simp only [clampV]; have hz3 : w.heap.size < w3.heap.size := (by have := hb3.size; first | omega | (simp at this; omega)); have hk3 : ∀ o, w3.cell? ⟨w.heap.size, o, none⟩ = w2.cell? ⟨w.heap.size, o, none⟩ := fun o => hb3.cell (p := ⟨w.heap.size, o, none⟩) hz2))
  rename_i hheld
  clear hheld hq hgd
  go_wp2_with (first
    | (go_at_call 30; refine (refright_any _ _ _ _ _ _ _ _).mono ?_; rintro e w4 ⟨rfl, hb4⟩; rw [hrr]; have hz4 : w.heap.size < w4.heap.size := (by have := hb4.size; first | omega | (simp at this; omega)); have hk4 : ∀ o, w4.cell? ⟨w.heap.size, o, none⟩ = w3.cell? ⟨w.heap.size, o, none⟩ := fun o => hb4.cell (p := ⟨w.heap.size, o, none⟩) hz3)
    | (go_at_call 33; refine (words_no _ _ _ _ _ _ _ _ (by repeat (first | exact ht | apply LimTab.drewN | apply LimTab.drew | apply LimTab.alloc | (refine LimTab.later ?_ (by assumption)))) hr).mono ?_; rintro e w5 ⟨rfl, hb5⟩; have hz5 : w.heap.size < w5.heap.size := (by have := hb5.size; first | omega | (simp at this; omega)); have hk5 : ∀ o, w5.cell? ⟨w.heap.size, o, none⟩ = w4.cell? ⟨w.heap.size, o, none⟩ := fun o => hb5.cell (p := ⟨w.heap.size, o, none⟩) hz4)
    | (go_at_call 34; refine (slots_no _ _ _ _ _ _ _ _ (by repeat (first | exact ht | apply LimTab.drewN | apply LimTab.drew | apply LimTab.alloc | (refine LimTab.later ?_ (by assumption)))) hr).mono ?_; rintro e w6 ⟨rfl, hb6⟩; have hz6 : w.heap.size < w6.heap.size := (by have := hb6.size; first | omega | (simp at this; omega)); have hk6 : ∀ o, w6.cell? ⟨w.heap.size, o, none⟩ = w5.cell? ⟨w.heap.size, o, none⟩ := fun o => hb6.cell (p := ⟨w.heap.size, o, none⟩) hz5)
    | (go_at_call 35; refine (op_no _ _ _ _ _ _ _ _ (by repeat (first | exact ht | apply LimTab.drewN | apply LimTab.drew | apply LimTab.alloc | (refine LimTab.later ?_ (by assumption)))) hr).mono ?_; rintro e w7 ⟨rfl, hb7⟩; have hz7 : w.heap.size < w7.heap.size := (by have := hb7.size; first | omega | (simp at this; omega)); have hk7 : ∀ o, w7.cell? ⟨w.heap.size, o, none⟩ = w6.cell? ⟨w.heap.size, o, none⟩ := fun o => hb7.cell (p := ⟨w.heap.size, o, none⟩) hz6)
    | (go_at_call 36; refine (ans_no _ _ _ _ _ _ _ _ (by repeat (first | exact ht | apply LimTab.drewN | apply LimTab.drew | apply LimTab.alloc | (refine LimTab.later ?_ (by assumption)))) hr).mono ?_; rintro e w8 ⟨rfl, hb8⟩; have hz8 : w.heap.size < w8.heap.size := (by have := hb8.size; first | omega | (simp at this; omega)); have hk8 : ∀ o, w8.cell? ⟨w.heap.size, o, none⟩ = w7.cell? ⟨w.heap.size, o, none⟩ := fun o => hb8.cell (p := ⟨w.heap.size, o, none⟩) hz7)
    | (go_at_call 37; refine (awake2_any _ (by repeat (first | exact ht | apply LimTab.drewN | apply LimTab.drew | apply LimTab.alloc | (refine LimTab.later ?_ (by assumption))))).mono ?_; rintro e w9 ⟨rfl, hb9⟩; have hz9 : w.heap.size < w9.heap.size := (by have := hb9.size; first | omega | (simp at this; omega)); have hk9 : ∀ o, w9.cell? ⟨w.heap.size, o, none⟩ = w8.cell? ⟨w.heap.size, o, none⟩ := fun o => hb9.cell (p := ⟨w.heap.size, o, none⟩) hz8))
  go_ret
  exact ⟨rfl, ((((((((((below_drew ((Below.refl _ _).alloc (Nat.le_refl _) _)).trans (hb0.mono (by simp))).trans (hb1.mono (by first | omega | (simp; omega)))).trans (hb2.mono (by first | omega | (simp; omega)))).trans (hb3.mono (by first | omega | (simp; omega)))).trans (hb4.mono (by first | omega | (simp; omega)))).trans (hb5.mono (by first | omega | (simp; omega)))).trans (hb6.mono (by first | omega | (simp; omega)))).trans (hb7.mono (by first | omega | (simp; omega)))).trans (hb8.mono (by first | omega | (simp; omega)))).trans (hb9.mono (by first | omega | (simp; omega)))⟩

set_option maxHeartbeats 4000000 in
theorem configRight_yes (b wd m r ce lg st : Int) (w : World) (ht : LimTab w) (hR : RightC b wd m r ce lg st) (hr : rightB b wd m r ce lg st = true) (hrr : refRightB b wd m r ce lg st = true) :
    Calls Tryd.prog 8 #[.agg #[.int .i64 b, .int .i64 wd, .int .i64 m, .int .i64 r, .int .i64 ce, .int .i64 lg, .int .i64 st]] w fun e w' => e = .returned (.bool true) ∧ Below w.heap.size w w' := by
  have hq := fun w => run_neq_cfg (clampAt 0 b) (clampAt 1 wd) (clampAt 2 m) (clampAt 3 r) (clampAt 4 ce) (clampAt 5 lg) (clampAt 6 st) w
  have hgd := guardCfg
  have hw1 := hR.words
  have hx : IntKind.i64.wrap (b * wd) = b * wd := IntWalk.i64_in _ (by omega)
  clear hw1
  have hR' := Lib.hid hR
  clear hR
  go_enter Tryd.func8, Tryd.ntmps8
  go_wp2
  go_region_held3 (fun w' => w'.cell? ⟨w.heap.size, 0, none⟩ = some (.int .i64 b) ∧ w'.cell? ⟨w.heap.size, 1, none⟩ = some (.int .i64 wd) ∧ w'.cell? ⟨w.heap.size, 2, none⟩ = some (.int .i64 m)
     ∧ w'.cell? ⟨w.heap.size, 3, none⟩ = some (.int .i64 r) ∧ w'.cell? ⟨w.heap.size, 4, none⟩ = some (.int .i64 ce) ∧ w'.cell? ⟨w.heap.size, 5, none⟩ = some (.int .i64 lg) ∧ w'.cell? ⟨w.heap.size, 6, none⟩ = some (.int .i64 st)) (go_keep)
    (first
      | (go_at_call 29; refine (right_any _ _ _ _ _ _ _ _ (by repeat (first | exact ht | apply LimTab.drewN | apply LimTab.drew | apply LimTab.alloc | (refine LimTab.later ?_ (by assumption))))).mono ?_; rintro e w0 ⟨rfl, hb0⟩; rw [hr]; have hz0 : w.heap.size < w0.heap.size := (by have := hb0.size; first | omega | (simp at this; omega)); have hk0 : ∀ o, w0.cell? ⟨w.heap.size, o, none⟩ = (w.alloc _).cell? ⟨w.heap.size, o, none⟩ := fun o => hb0.cell (p := ⟨w.heap.size, o, none⟩) (by simp))
      | (go_at_call 30; refine (refright_any _ _ _ _ _ _ _ _).mono ?_; rintro e w1 ⟨rfl, hb1⟩; rw [hrr]; have hz1 : w.heap.size < w1.heap.size := (by have := hb1.size; first | omega | (simp at this; omega)); have hk1 : ∀ o, w1.cell? ⟨w.heap.size, o, none⟩ = w0.cell? ⟨w.heap.size, o, none⟩ := fun o => hb1.cell (p := ⟨w.heap.size, o, none⟩) hz0)
      | (go_at_call 31; refine (clamp_any _ _ _ _ _ _ _ _ (by repeat (first | exact ht | apply LimTab.drewN | apply LimTab.drew | apply LimTab.alloc | (refine LimTab.later ?_ (by assumption))))).mono ?_; rintro e w2 ⟨rfl, hb2⟩; simp only [clampV]; have hz2 : w.heap.size < w2.heap.size := (by have := hb2.size; first | omega | (simp at this; omega)); have hk2 : ∀ o, w2.cell? ⟨w.heap.size, o, none⟩ = w1.cell? ⟨w.heap.size, o, none⟩ := fun o => hb2.cell (p := ⟨w.heap.size, o, none⟩) hz1)
      | (go_at_call 32; refine (refclamp_any _ _ _ _ _ _ _ _).mono ?_; rintro e w3 ⟨rfl, hb3⟩; simp only [clampV]; have hz3 : w.heap.size < w3.heap.size := (by have := hb3.size; first | omega | (simp at this; omega)); have hk3 : ∀ o, w3.cell? ⟨w.heap.size, o, none⟩ = w2.cell? ⟨w.heap.size, o, none⟩ := fun o => hb3.cell (p := ⟨w.heap.size, o, none⟩) hz2))
  rename_i hheld
  clear hheld hq hgd
  go_wp2_with (first
    | (go_at_call 30; refine (refright_any _ _ _ _ _ _ _ _).mono ?_; rintro e w4 ⟨rfl, hb4⟩; rw [hrr]; have hz4 : w.heap.size < w4.heap.size := (by have := hb4.size; first | omega | (simp at this; omega)); have hk4 : ∀ o, w4.cell? ⟨w.heap.size, o, none⟩ = w3.cell? ⟨w.heap.size, o, none⟩ := fun o => hb4.cell (p := ⟨w.heap.size, o, none⟩) hz3)
    )
  go_region_held3 (fun w' => w'.cell? ⟨w.heap.size, 0, none⟩ = some (.int .i64 b) ∧ w'.cell? ⟨w.heap.size, 1, none⟩ = some (.int .i64 wd) ∧ w'.cell? ⟨w.heap.size, 2, none⟩ = some (.int .i64 m)
     ∧ w'.cell? ⟨w.heap.size, 3, none⟩ = some (.int .i64 r) ∧ w'.cell? ⟨w.heap.size, 4, none⟩ = some (.int .i64 ce) ∧ w'.cell? ⟨w.heap.size, 5, none⟩ = some (.int .i64 lg) ∧ w'.cell? ⟨w.heap.size, 6, none⟩ = some (.int .i64 st)) (go_keep)
    (first
    | (go_at_call 33; refine (words_yes _ _ _ _ _ _ _ _ (by repeat (first | exact ht | apply LimTab.drewN | apply LimTab.drew | apply LimTab.alloc | (refine LimTab.later ?_ (by assumption)))) hR'.out hr).mono ?_; rintro e w5 ⟨rfl, hb5⟩; have hz5 : w.heap.size < w5.heap.size := (by have := hb5.size; first | omega | (simp at this; omega)); have hk5 : ∀ o, w5.cell? ⟨w.heap.size, o, none⟩ = w4.cell? ⟨w.heap.size, o, none⟩ := fun o => hb5.cell (p := ⟨w.heap.size, o, none⟩) hz4)
    | (go_at_call 34; refine (slots_yes _ _ _ _ _ _ _ _ (by repeat (first | exact ht | apply LimTab.drewN | apply LimTab.drew | apply LimTab.alloc | (refine LimTab.later ?_ (by assumption)))) hR'.out hr).mono ?_; rintro e w6 ⟨rfl, hb6⟩; have hz6 : w.heap.size < w6.heap.size := (by have := hb6.size; first | omega | (simp at this; omega)); have hk6 : ∀ o, w6.cell? ⟨w.heap.size, o, none⟩ = w5.cell? ⟨w.heap.size, o, none⟩ := fun o => hb6.cell (p := ⟨w.heap.size, o, none⟩) hz5)
    | (go_at_call 38; refine (refslots_any _ _ _ _ _ _ _ _ hR'.out).mono ?_; rintro e w7 ⟨rfl, hb7⟩; have hz7 : w.heap.size < w7.heap.size := (by have := hb7.size; first | omega | (simp at this; omega)); have hk7 : ∀ o, w7.cell? ⟨w.heap.size, o, none⟩ = w6.cell? ⟨w.heap.size, o, none⟩ := fun o => hb7.cell (p := ⟨w.heap.size, o, none⟩) hz6)
    | (go_at_call 35; refine (op_yes _ _ _ _ _ _ _ _ (by repeat (first | exact ht | apply LimTab.drewN | apply LimTab.drew | apply LimTab.alloc | (refine LimTab.later ?_ (by assumption)))) hR'.out hr).mono ?_; rintro e w8 ⟨rfl, hb8⟩; have hz8 : w.heap.size < w8.heap.size := (by have := hb8.size; first | omega | (simp at this; omega)); have hk8 : ∀ o, w8.cell? ⟨w.heap.size, o, none⟩ = w7.cell? ⟨w.heap.size, o, none⟩ := fun o => hb8.cell (p := ⟨w.heap.size, o, none⟩) hz7)
    | (go_at_call 39; refine (refop_any _ _ _ _ _ _ _ _ hR'.out).mono ?_; rintro e w9 ⟨rfl, hb9⟩; have hz9 : w.heap.size < w9.heap.size := (by have := hb9.size; first | omega | (simp at this; omega)); have hk9 : ∀ o, w9.cell? ⟨w.heap.size, o, none⟩ = w8.cell? ⟨w.heap.size, o, none⟩ := fun o => hb9.cell (p := ⟨w.heap.size, o, none⟩) hz8)
    | (go_at_call 36; refine (ans_yes _ _ _ _ _ _ _ _ (by repeat (first | exact ht | apply LimTab.drewN | apply LimTab.drew | apply LimTab.alloc | (refine LimTab.later ?_ (by assumption)))) hR'.out hr).mono ?_; rintro e w10 ⟨rfl, hb10⟩; have hz10 : w.heap.size < w10.heap.size := (by have := hb10.size; first | omega | (simp at this; omega)); have hk10 : ∀ o, w10.cell? ⟨w.heap.size, o, none⟩ = w9.cell? ⟨w.heap.size, o, none⟩ := fun o => hb10.cell (p := ⟨w.heap.size, o, none⟩) hz9)
    | (go_at_call 40; refine (refans_any _ _ _ _ _ _ _ _ hR'.out).mono ?_; rintro e w11 ⟨rfl, hb11⟩; have hz11 : w.heap.size < w11.heap.size := (by have := hb11.size; first | omega | (simp at this; omega)); have hk11 : ∀ o, w11.cell? ⟨w.heap.size, o, none⟩ = w10.cell? ⟨w.heap.size, o, none⟩ := fun o => hb11.cell (p := ⟨w.heap.size, o, none⟩) hz10)
    | (go_at_call 37; refine (awake2_any _ (by repeat (first | exact ht | apply LimTab.drewN | apply LimTab.drew | apply LimTab.alloc | (refine LimTab.later ?_ (by assumption))))).mono ?_; rintro e w12 ⟨rfl, hb12⟩; have hz12 : w.heap.size < w12.heap.size := (by have := hb12.size; first | omega | (simp at this; omega)); have hk12 : ∀ o, w12.cell? ⟨w.heap.size, o, none⟩ = w11.cell? ⟨w.heap.size, o, none⟩ := fun o => hb12.cell (p := ⟨w.heap.size, o, none⟩) hz11))
  rename_i hheld
  clear hheld hx
  go_wp2
  go_ret
  exact ⟨rfl, ((((((((below_drew ((((((below_drew ((Below.refl _ _).alloc (Nat.le_refl _) _)).trans (hb0.mono (by simp))).trans (hb1.mono (by first | omega | (simp; omega)))).trans (hb2.mono (by first | omega | (simp; omega)))).trans (hb3.mono (by first | omega | (simp; omega)))).trans (hb4.mono (by first | omega | (simp; omega))))).trans (hb5.mono (by first | omega | (simp; omega)))).trans (hb6.mono (by first | omega | (simp; omega)))).trans (hb7.mono (by first | omega | (simp; omega)))).trans (hb8.mono (by first | omega | (simp; omega)))).trans (hb9.mono (by first | omega | (simp; omega)))).trans (hb10.mono (by first | omega | (simp; omega)))).trans (hb11.mono (by first | omega | (simp; omega)))).trans (hb12.mono (by first | omega | (simp; omega)))⟩

set_option maxHeartbeats 4000000 in
theorem configBounds_no (b wd m r ce lg st k : Int) (w : World) (ht : LimTab w) (hr : rightB b wd m r ce lg st = false) (hrr : refRightB b wd m r ce lg st = false) :
    Calls Tryd.prog 9 #[.agg #[.int .i64 b, .int .i64 wd, .int .i64 m, .int .i64 r, .int .i64 ce, .int .i64 lg, .int .i64 st], .int .i64 k] w fun e w' => e = .returned (.bool true) ∧ Below w.heap.size w w' := by
  go_enter Tryd.func9, Tryd.ntmps9
  go_wp2
  go_region_held3 (fun w' => w'.cell? ⟨w.heap.size, 0, none⟩ = some (.int .i64 b) ∧ w'.cell? ⟨w.heap.size, 1, none⟩ = some (.int .i64 wd) ∧ w'.cell? ⟨w.heap.size, 2, none⟩ = some (.int .i64 m)
     ∧ w'.cell? ⟨w.heap.size, 3, none⟩ = some (.int .i64 r) ∧ w'.cell? ⟨w.heap.size, 4, none⟩ = some (.int .i64 ce) ∧ w'.cell? ⟨w.heap.size, 5, none⟩ = some (.int .i64 lg) ∧ w'.cell? ⟨w.heap.size, 6, none⟩ = some (.int .i64 st)) (go_keep)
    (first
    | (go_at_call 41; refine (Marking_no _ _ _ _ _ _ _ _ _ (by repeat (first | exact ht | apply LimTab.drewN | apply LimTab.drew | apply LimTab.alloc | (refine LimTab.later ?_ (by assumption)))) hr).mono ?_; rintro e w0 ⟨rfl, hb0⟩; have hz0 : w.heap.size < w0.heap.size := (by have := hb0.size; first | omega | (simp at this; omega)); have hk0 : ∀ o, w0.cell? ⟨w.heap.size, o, none⟩ = (w.alloc _).cell? ⟨w.heap.size, o, none⟩ := fun o => hb0.cell (p := ⟨w.heap.size, o, none⟩) (by simp))
    | (go_at_call 42; refine (Cycle_no _ _ _ _ _ _ _ _ _ (by repeat (first | exact ht | apply LimTab.drewN | apply LimTab.drew | apply LimTab.alloc | (refine LimTab.later ?_ (by assumption)))) hr).mono ?_; rintro e w1 ⟨rfl, hb1⟩; have hz1 : w.heap.size < w1.heap.size := (by have := hb1.size; first | omega | (simp at this; omega)); have hk1 : ∀ o, w1.cell? ⟨w.heap.size, o, none⟩ = w0.cell? ⟨w.heap.size, o, none⟩ := fun o => hb1.cell (p := ⟨w.heap.size, o, none⟩) hz0))
  rename_i hheld
  clear hheld
  go_wp2_with (first
    | (go_at_call 30; refine (refright_any _ _ _ _ _ _ _ _).mono ?_; rintro e w2 ⟨rfl, hb2⟩; rw [hrr]; have hz2 : w.heap.size < w2.heap.size := (by have := hb2.size; first | omega | (simp at this; omega)); have hk2 : ∀ o, w2.cell? ⟨w.heap.size, o, none⟩ = w1.cell? ⟨w.heap.size, o, none⟩ := fun o => hb2.cell (p := ⟨w.heap.size, o, none⟩) hz1)
    | (go_at_call 37; refine (awake2_any _ (by repeat (first | exact ht | apply LimTab.drewN | apply LimTab.drew | apply LimTab.alloc | (refine LimTab.later ?_ (by assumption))))).mono ?_; rintro e w3 ⟨rfl, hb3⟩; have hz3 : w.heap.size < w3.heap.size := (by have := hb3.size; first | omega | (simp at this; omega)); have hk3 : ∀ o, w3.cell? ⟨w.heap.size, o, none⟩ = w2.cell? ⟨w.heap.size, o, none⟩ := fun o => hb3.cell (p := ⟨w.heap.size, o, none⟩) hz2))
  go_ret
  exact ⟨rfl, ((((below_drew ((Below.refl _ _).alloc (Nat.le_refl _) _)).trans (hb0.mono (by simp))).trans (hb1.mono (by first | omega | (simp; omega)))).trans (hb2.mono (by first | omega | (simp; omega)))).trans (hb3.mono (by first | omega | (simp; omega)))⟩

set_option maxHeartbeats 4000000 in
theorem configBounds_k0 (b wd m r ce lg st k : Int) (w : World) (ht : LimTab w) (hR : RightC b wd m r ce lg st) (hr : rightB b wd m r ce lg st = true) (hrr : refRightB b wd m r ce lg st = true) (hk : k < 1) :
    Calls Tryd.prog 9 #[.agg #[.int .i64 b, .int .i64 wd, .int .i64 m, .int .i64 r, .int .i64 ce, .int .i64 lg, .int .i64 st], .int .i64 k] w fun e w' => e = .returned (.bool true) ∧ Below w.heap.size w w' := by
  have hR' := Lib.hid hR
  clear hR
  go_enter Tryd.func9, Tryd.ntmps9
  go_wp2
  go_region_held3 (fun w' => w'.cell? ⟨w.heap.size, 0, none⟩ = some (.int .i64 b) ∧ w'.cell? ⟨w.heap.size, 1, none⟩ = some (.int .i64 wd) ∧ w'.cell? ⟨w.heap.size, 2, none⟩ = some (.int .i64 m)
     ∧ w'.cell? ⟨w.heap.size, 3, none⟩ = some (.int .i64 r) ∧ w'.cell? ⟨w.heap.size, 4, none⟩ = some (.int .i64 ce) ∧ w'.cell? ⟨w.heap.size, 5, none⟩ = some (.int .i64 lg) ∧ w'.cell? ⟨w.heap.size, 6, none⟩ = some (.int .i64 st)) (go_keep)
    (first
    | (go_at_call 41; refine (Marking_yes _ _ _ _ _ _ _ _ _ (by repeat (first | exact ht | apply LimTab.drewN | apply LimTab.drew | apply LimTab.alloc | (refine LimTab.later ?_ (by assumption)))) hR'.out hr).mono ?_; rintro e w0 ⟨rfl, hb0⟩; rw [timesI_k0 hk]; have hz0 : w.heap.size < w0.heap.size := (by have := hb0.size; first | omega | (simp at this; omega)); have hk0 : ∀ o, w0.cell? ⟨w.heap.size, o, none⟩ = (w.alloc _).cell? ⟨w.heap.size, o, none⟩ := fun o => hb0.cell (p := ⟨w.heap.size, o, none⟩) (by simp))
    | (go_at_call 42; refine (Cycle_yes _ _ _ _ _ _ _ _ _ (by repeat (first | exact ht | apply LimTab.drewN | apply LimTab.drew | apply LimTab.alloc | (refine LimTab.later ?_ (by assumption)))) hR'.out hr).mono ?_; rintro e w1 ⟨rfl, hb1⟩; rw [timesI_k0 hk]; have hz1 : w.heap.size < w1.heap.size := (by have := hb1.size; first | omega | (simp at this; omega)); have hk1 : ∀ o, w1.cell? ⟨w.heap.size, o, none⟩ = w0.cell? ⟨w.heap.size, o, none⟩ := fun o => hb1.cell (p := ⟨w.heap.size, o, none⟩) hz0))
  rename_i hheld
  clear hheld
  go_wp2_with (first
    | (go_at_call 30; refine (refright_any _ _ _ _ _ _ _ _).mono ?_; rintro e w2 ⟨rfl, hb2⟩; rw [hrr]; have hz2 : w.heap.size < w2.heap.size := (by have := hb2.size; first | omega | (simp at this; omega)); have hk2 : ∀ o, w2.cell? ⟨w.heap.size, o, none⟩ = w1.cell? ⟨w.heap.size, o, none⟩ := fun o => hb2.cell (p := ⟨w.heap.size, o, none⟩) hz1)
    | (go_at_call 37; refine (awake2_any _ (by repeat (first | exact ht | apply LimTab.drewN | apply LimTab.drew | apply LimTab.alloc | (refine LimTab.later ?_ (by assumption))))).mono ?_; rintro e w3 ⟨rfl, hb3⟩; have hz3 : w.heap.size < w3.heap.size := (by have := hb3.size; first | omega | (simp at this; omega)); have hk3 : ∀ o, w3.cell? ⟨w.heap.size, o, none⟩ = w2.cell? ⟨w.heap.size, o, none⟩ := fun o => hb3.cell (p := ⟨w.heap.size, o, none⟩) hz2))
  go_ret
  exact ⟨rfl, ((((below_drew ((Below.refl _ _).alloc (Nat.le_refl _) _)).trans (hb0.mono (by simp))).trans (hb1.mono (by first | omega | (simp; omega)))).trans (hb2.mono (by first | omega | (simp; omega)))).trans (hb3.mono (by first | omega | (simp; omega)))⟩

set_option maxHeartbeats 4000000 in
theorem configBounds_yes (b wd m r ce lg st k : Int) (w : World) (ht : LimTab w) (hR : RightC b wd m r ce lg st) (hr : rightB b wd m r ce lg st = true) (hrr : refRightB b wd m r ce lg st = true) (hk : 1 ≤ k) :
    Calls Tryd.prog 9 #[.agg #[.int .i64 b, .int .i64 wd, .int .i64 m, .int .i64 r, .int .i64 ce, .int .i64 lg, .int .i64 st], .int .i64 k] w fun e w' => e = .returned (.bool true) ∧ Below w.heap.size w w' := by
  have hR' := Lib.hid hR
  clear hR
  go_enter Tryd.func9, Tryd.ntmps9
  go_wp2
  go_region_held3 (fun w' => w'.cell? ⟨w.heap.size, 0, none⟩ = some (.int .i64 b) ∧ w'.cell? ⟨w.heap.size, 1, none⟩ = some (.int .i64 wd) ∧ w'.cell? ⟨w.heap.size, 2, none⟩ = some (.int .i64 m)
     ∧ w'.cell? ⟨w.heap.size, 3, none⟩ = some (.int .i64 r) ∧ w'.cell? ⟨w.heap.size, 4, none⟩ = some (.int .i64 ce) ∧ w'.cell? ⟨w.heap.size, 5, none⟩ = some (.int .i64 lg) ∧ w'.cell? ⟨w.heap.size, 6, none⟩ = some (.int .i64 st)) (go_keep)
    (first
    | (go_at_call 41; refine (Marking_yes _ _ _ _ _ _ _ _ _ (by repeat (first | exact ht | apply LimTab.drewN | apply LimTab.drew | apply LimTab.alloc | (refine LimTab.later ?_ (by assumption)))) hR'.out hr).mono ?_; rintro e w0 ⟨rfl, hb0⟩; have hz0 : w.heap.size < w0.heap.size := (by have := hb0.size; first | omega | (simp at this; omega)); have hk0 : ∀ o, w0.cell? ⟨w.heap.size, o, none⟩ = (w.alloc _).cell? ⟨w.heap.size, o, none⟩ := fun o => hb0.cell (p := ⟨w.heap.size, o, none⟩) (by simp))
    | (go_at_call 42; refine (Cycle_yes _ _ _ _ _ _ _ _ _ (by repeat (first | exact ht | apply LimTab.drewN | apply LimTab.drew | apply LimTab.alloc | (refine LimTab.later ?_ (by assumption)))) hR'.out hr).mono ?_; rintro e w1 ⟨rfl, hb1⟩; have hz1 : w.heap.size < w1.heap.size := (by have := hb1.size; first | omega | (simp at this; omega)); have hk1 : ∀ o, w1.cell? ⟨w.heap.size, o, none⟩ = w0.cell? ⟨w.heap.size, o, none⟩ := fun o => hb1.cell (p := ⟨w.heap.size, o, none⟩) hz0))
  rename_i hheld
  clear hheld
  go_wp2_with (first
    | (go_at_call 30; refine (refright_any _ _ _ _ _ _ _ _).mono ?_; rintro e w2 ⟨rfl, hb2⟩; rw [hrr]; have hz2 : w.heap.size < w2.heap.size := (by have := hb2.size; first | omega | (simp at this; omega)); have hk2 : ∀ o, w2.cell? ⟨w.heap.size, o, none⟩ = w1.cell? ⟨w.heap.size, o, none⟩ := fun o => hb2.cell (p := ⟨w.heap.size, o, none⟩) hz1)
    | (go_at_call 43; refine (refmarking_any _ _ _ _ _ _ _ _ _ hR'.out hk).mono ?_; rintro e w3 ⟨rfl, hb3⟩; have hz3 : w.heap.size < w3.heap.size := (by have := hb3.size; first | omega | (simp at this; omega)); have hk3 : ∀ o, w3.cell? ⟨w.heap.size, o, none⟩ = w2.cell? ⟨w.heap.size, o, none⟩ := fun o => hb3.cell (p := ⟨w.heap.size, o, none⟩) hz2)
    | (go_at_call 44; refine (refcycle_any _ _ _ _ _ _ _ _ _ hR'.out hk).mono ?_; rintro e w4 ⟨rfl, hb4⟩; have hz4 : w.heap.size < w4.heap.size := (by have := hb4.size; first | omega | (simp at this; omega)); have hk4 : ∀ o, w4.cell? ⟨w.heap.size, o, none⟩ = w3.cell? ⟨w.heap.size, o, none⟩ := fun o => hb4.cell (p := ⟨w.heap.size, o, none⟩) hz3)
    | (go_at_call 37; refine (awake2_any _ (by repeat (first | exact ht | apply LimTab.drewN | apply LimTab.drew | apply LimTab.alloc | (refine LimTab.later ?_ (by assumption))))).mono ?_; rintro e w5 ⟨rfl, hb5⟩; have hz5 : w.heap.size < w5.heap.size := (by have := hb5.size; first | omega | (simp at this; omega)); have hk5 : ∀ o, w5.cell? ⟨w.heap.size, o, none⟩ = w4.cell? ⟨w.heap.size, o, none⟩ := fun o => hb5.cell (p := ⟨w.heap.size, o, none⟩) hz4))
  go_ret
  exact ⟨rfl, ((((((below_drew ((Below.refl _ _).alloc (Nat.le_refl _) _)).trans (hb0.mono (by simp))).trans (hb1.mono (by first | omega | (simp; omega)))).trans (hb2.mono (by first | omega | (simp; omega)))).trans (hb3.mono (by first | omega | (simp; omega)))).trans (hb4.mono (by first | omega | (simp; omega)))).trans (hb5.mono (by first | omega | (simp; omega)))⟩

end Go.Proofs.YtahhenbphnejiaaDoor
