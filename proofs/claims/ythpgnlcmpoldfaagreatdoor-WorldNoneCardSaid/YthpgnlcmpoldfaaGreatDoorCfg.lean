/-
  Base texts, one behind the other: ConfigWalks ConfigB CfgMath ConfigW ConfigR.
-/
import Derived.Test.YthpgnlcmpoldfaaGreatDoorRows
import Derived.WalkKit
import Derived.WalkSpells
import Derived.WalkLawsBesides
import Derived.Deep.QuietTactic
import Derived.BigQuiet
import Derived.Deep.RegionHeld3
import Derived.Lib.Hide
import Derived.Deep.RegionWith
namespace Go.Proofs.YthpgnlcmpoldfaaGreatDoor
open Go.RowKit

theorem below_drewN {B : Nat} {a w : World} (h : Below B a w) (n : Nat) : Below B a (w.drewN n) := ⟨h.os, h.tape, h.output, h.size, h.block⟩

/-- A number brought to the nearest that may be. -/
def nearI (n lo hi : Int) : Int := if hi < (if n < lo then lo else n) then hi else (if n < lo then lo else n)

theorem ret_int {k : IntKind} {a b : Int} (h : a = b) : Ending.returned (.int k a) = .returned (.int k b) := by rw [h]

/-- The table of limits, cell by cell. -/
structure LimTab (w : World) : Prop where
  l0 : w.cell? ⟨0, 0, none⟩ = some (.int .i64 1)
  h0 : w.cell? ⟨0, 1, none⟩ = some (.int .i64 4096)
  l1 : w.cell? ⟨0, 2, none⟩ = some (.int .i64 16)
  h1 : w.cell? ⟨0, 3, none⟩ = some (.int .i64 256)
  l2 : w.cell? ⟨0, 4, none⟩ = some (.int .i64 1)
  h2 : w.cell? ⟨0, 5, none⟩ = some (.int .i64 8)
  l3 : w.cell? ⟨0, 6, none⟩ = some (.int .i64 1)
  h3 : w.cell? ⟨0, 7, none⟩ = some (.int .i64 64)
  l4 : w.cell? ⟨0, 8, none⟩ = some (.int .i64 0)
  h4 : w.cell? ⟨0, 9, none⟩ = some (.int .i64 64)
  l5 : w.cell? ⟨0, 10, none⟩ = some (.int .i64 1)
  h5 : w.cell? ⟨0, 11, none⟩ = some (.int .i64 256)
  l6 : w.cell? ⟨0, 12, none⟩ = some (.int .i64 1)
  h6 : w.cell? ⟨0, 13, none⟩ = some (.int .i64 4096)
  blk : 0 < w.heap.size

theorem LimTab.below {n : Nat} {w w' : World} (h : LimTab w) (hb : Below n w w') (hn : 0 < n) : LimTab w' :=
  ⟨(hb.cell (p := ⟨_, 0, none⟩) hn).trans h.l0, (hb.cell (p := ⟨_, 1, none⟩) hn).trans h.h0, (hb.cell (p := ⟨_, 2, none⟩) hn).trans h.l1, (hb.cell (p := ⟨_, 3, none⟩) hn).trans h.h1,
   (hb.cell (p := ⟨_, 4, none⟩) hn).trans h.l2, (hb.cell (p := ⟨_, 5, none⟩) hn).trans h.h2, (hb.cell (p := ⟨_, 6, none⟩) hn).trans h.l3, (hb.cell (p := ⟨_, 7, none⟩) hn).trans h.h3,
   (hb.cell (p := ⟨_, 8, none⟩) hn).trans h.l4, (hb.cell (p := ⟨_, 9, none⟩) hn).trans h.h4, (hb.cell (p := ⟨_, 10, none⟩) hn).trans h.l5, (hb.cell (p := ⟨_, 11, none⟩) hn).trans h.h5,
   (hb.cell (p := ⟨_, 12, none⟩) hn).trans h.l6, (hb.cell (p := ⟨_, 13, none⟩) hn).trans h.h6, Nat.lt_of_lt_of_le h.blk hb.size⟩

set_option maxHeartbeats 400000 in
theorem clamp1_any (p : Nat) (n : Int) (lo hi : Int) (w : World) (hp : p < 7)
    (h1 : w.cell? ⟨0, p * 2, none⟩ = some (.int .i64 lo)) (h2 : w.cell? ⟨0, p * 2 + 1, none⟩ = some (.int .i64 hi)) :
    Calls Tryz.prog 136 #[.int .i64 p, .int .i64 n] w fun e w' => e = .returned (.int .i64 (nearI n lo hi)) ∧ ∃ k, w' = w.drewN k := by
  go_enter Tryz.func136, Tryz.ntmps136
  go_wp2
  go_quiet (fail)
  go_wp2
  all_goals go_ret
  all_goals (refine ⟨ret_int ?_, _, rfl⟩; unfold nearI; (repeat' split) <;> omega)

theorem LimTab.alloc {w : World} (h : LimTab w) (o : Obj) : LimTab (w.alloc o) := h.below ((Below.refl _ _).alloc (Nat.le_refl _) _) h.blk
theorem LimTab.drew {w : World} (h : LimTab w) : LimTab w.drew := ⟨h.l0, h.h0, h.l1, h.h1, h.l2, h.h2, h.l3, h.h3, h.l4, h.h4, h.l5, h.h5, h.l6, h.h6, h.blk⟩
theorem LimTab.drewN {w : World} (h : LimTab w) (k : Nat) : LimTab (w.drewN k) := ⟨h.l0, h.h0, h.l1, h.h1, h.l2, h.h2, h.l3, h.h3, h.l4, h.h4, h.l5, h.h5, h.l6, h.h6, h.blk⟩
/-- A number of a place, brought to the nearest that may be. -/
def clampAt (p n : Int) : Int := if p = 0 then nearI n 1 4096 else if p = 1 then nearI n 16 256 else if p = 2 then nearI n 1 8 else if p = 3 then nearI n 1 64 else if p = 4 then nearI n 0 64 else if p = 5 then nearI n 1 256 else nearI n 1 4096
theorem clamp1_all (p n : Int) (h0 : 0 ≤ p) (h7 : p < 7) (w : World) (ht : LimTab w) :
    Calls Tryz.prog 136 #[.int .i64 p, .int .i64 n] w fun e w' => e = .returned (.int .i64 (clampAt p n)) ∧ ∃ k, w' = w.drewN k := by
  have hp : p = 0 ∨ p = 1 ∨ p = 2 ∨ p = 3 ∨ p = 4 ∨ p = 5 ∨ p = 6 := by omega
  rcases hp with rfl | rfl | rfl | rfl | rfl | rfl | rfl
  · exact clamp1_any 0 n 1 4096 w (by decide) ht.l0 ht.h0
  · exact clamp1_any 1 n 16 256 w (by decide) ht.l1 ht.h1
  · exact clamp1_any 2 n 1 8 w (by decide) ht.l2 ht.h2
  · exact clamp1_any 3 n 1 64 w (by decide) ht.l3 ht.h3
  · exact clamp1_any 4 n 0 64 w (by decide) ht.l4 ht.h4
  · exact clamp1_any 5 n 1 256 w (by decide) ht.l5 ht.h5
  · exact clamp1_any 6 n 1 4096 w (by decide) ht.l6 ht.h6

/-- What is clamped. -/
def clampV (b wd m r ce lg st : Int) : Value := .agg #[.int .i64 (clampAt 0 b), .int .i64 (clampAt 1 wd), .int .i64 (clampAt 2 m), .int .i64 (clampAt 3 r), .int .i64 (clampAt 4 ce), .int .i64 (clampAt 5 lg), .int .i64 (clampAt 6 st)]

set_option maxHeartbeats 1000000 in
theorem each_any (b wd m r ce lg st : Int) (w : World) (ht : LimTab w) :
    Calls Tryz.prog 135 #[.agg #[.int .i64 b, .int .i64 wd, .int .i64 m, .int .i64 r, .int .i64 ce, .int .i64 lg, .int .i64 st], .func (.func 136) #[] #[]] w
      fun e w' => e = .returned (clampV b wd m r ce lg st) ∧ Below w.heap.size w w' := by
  go_enter Tryz.func135, Tryz.ntmps135
  go_wp2
  go_region_held3 (fun w' => w'.cell? ⟨w.heap.size, 0, none⟩ = some (.int .i64 b) ∧ w'.cell? ⟨w.heap.size, 1, none⟩ = some (.int .i64 wd) ∧ w'.cell? ⟨w.heap.size, 2, none⟩ = some (.int .i64 m)
     ∧ w'.cell? ⟨w.heap.size, 3, none⟩ = some (.int .i64 r) ∧ w'.cell? ⟨w.heap.size, 4, none⟩ = some (.int .i64 ce) ∧ w'.cell? ⟨w.heap.size, 5, none⟩ = some (.int .i64 lg) ∧ w'.cell? ⟨w.heap.size, 6, none⟩ = some (.int .i64 st)) (go_keep)
    (first
      | (go_at_call 136; refine (clamp1_all _ _ (by decide) (by decide) _ (by repeat (first | exact ht | apply LimTab.drewN | apply LimTab.drew | apply LimTab.alloc))).mono ?_; rintro e w' ⟨rfl, kd, rfl⟩))
  rename_i hheld
  clear hheld
  generalize 1 + _ + _ + _ + _ + _ + _ + _ = kk
  go_wp2
  refine bodyPost_ret (v := clampV b wd m r ce lg st) (by simp [results, Tryz.results135, go_sem, clampV]) rfl ⟨rfl, ?_⟩
  exact (((((((below_drewN (((Below.refl _ _).alloc (Nat.le_refl _) _).alloc (by simp) _) kk).setCell (by simp) _).setCell (by simp) _).setCell (by simp) _).setCell (by simp) _).setCell (by simp) _).setCell (by simp) _).setCell (by simp) _
end Go.Proofs.YthpgnlcmpoldfaaGreatDoor

namespace Go.Proofs.YthpgnlcmpoldfaaGreatDoor
open Go.RowKit

theorem bcell {W w1 : World} (hb : Below W.heap.size W w1) : (∀ b o, b < W.heap.size → w1.cell? ⟨b, o, none⟩ = W.cell? ⟨b, o, none⟩) ∧ (∀ b o, b < W.heap.size → w1.frozen? ⟨b, o, none⟩ = W.frozen? ⟨b, o, none⟩) :=
  ⟨fun b o h => hb.cell (p := ⟨b, o, none⟩) h, fun b o h => hb.frozen (p := ⟨b, o, none⟩) h⟩

set_option maxHeartbeats 1000000 in
theorem clamp_any (b wd m r ce lg st : Int) (w : World) (ht : LimTab w) :
    Calls Tryz.prog 104 #[.agg #[.int .i64 b, .int .i64 wd, .int .i64 m, .int .i64 r, .int .i64 ce, .int .i64 lg, .int .i64 st]] w
      fun e w' => e = .returned (clampV b wd m r ce lg st) ∧ Below w.heap.size w w' := by
  go_enter Tryz.func104, Tryz.ntmps104
  go_wp2_with (go_at_call 135; refine (each_any _ _ _ _ _ _ _ _ ((ht.alloc _).alloc _)).mono ?_; rintro e w' ⟨rfl, hb⟩; simp only [clampV]; obtain ⟨hc, hf⟩ := bcell hb)
  have b1 : Below w.heap.size w w' := (((Below.refl _ _).alloc (Nat.le_refl _) _).alloc (by simp) _).trans (hb.mono (by simp; omega))
  clear hb hf
  refine bodyPost_ret (v := clampV b wd m r ce lg st) (by simp [results, Tryz.results104, go_sem, clampV, hc]) rfl ⟨rfl, ?_⟩
  exact ((((((b1.setCell (by simp) _).setCell (by simp) _).setCell (by simp) _).setCell (by simp) _).setCell (by simp) _).setCell (by simp) _).setCell (by simp) _

theorem below_drew {B : Nat} {a w : World} (h : Below B a w) : Below B a w.drew := ⟨h.os, h.tape, h.output, h.size, h.block⟩

/-- Is a config right, by its seven numbers? -/
def rightB (b wd m r ce lg st : Int) : Bool := b == clampAt 0 b && (wd == clampAt 1 wd && (m == clampAt 2 m && (r == clampAt 3 r && (ce == clampAt 4 ce && (lg == clampAt 5 lg && st == clampAt 6 st)))))

theorem run_eq_cfg (b wd m r ce lg st b' wd' m' r' ce' lg' st' : Int) (w : World) :
    (binOp .eql 23 (.agg #[.int .i64 b, .int .i64 wd, .int .i64 m, .int .i64 r, .int .i64 ce, .int .i64 lg, .int .i64 st]) (.agg #[.int .i64 b', .int .i64 wd', .int .i64 m', .int .i64 r', .int .i64 ce', .int .i64 lg', .int .i64 st'])).run Tryz.prog w
      = .ok (.bool (b == b' && (wd == wd' && (m == m' && (r == r' && (ce == ce' && (lg == lg' && st == st'))))))) w := by
  have hp : Tryz.prog.stoodInHeld 23 = false := by kernel_rfl
  have hu := Tryz.underlying23
  have h3 := Tryz.underlying3
  have c3 : Tryz.prog.cellsOf 3 = 1 := by kernel_rfl
  rw [run_eql_struct, run_equalIn_agg _ _ _ _ _ (by unfold Program.fieldsOf; rw [hu]) hp]
  unfold Program.fieldsOf
  rw [hu]
  simp only [Op.eqFields]
  simp [go_sem, h3, part]
  (repeat' split) <;> simp [*]

theorem run_eq_right (b wd m r ce lg st : Int) (w : World) :
    (binOp .eql 23 (.agg #[.int .i64 b, .int .i64 wd, .int .i64 m, .int .i64 r, .int .i64 ce, .int .i64 lg, .int .i64 st]) (.agg #[.int .i64 (clampAt 0 b), .int .i64 (clampAt 1 wd), .int .i64 (clampAt 2 m), .int .i64 (clampAt 3 r), .int .i64 (clampAt 4 ce), .int .i64 (clampAt 5 lg), .int .i64 (clampAt 6 st)])).run Tryz.prog w
      = .ok (.bool (rightB b wd m r ce lg st)) w := run_eq_cfg _ _ _ _ _ _ _ _ _ _ _ _ _ _ w
theorem guardCfg : Tryz.prog.eqGuardType Tryz.prog.depth 23 = false := by kernel_rfl

set_option maxHeartbeats 1000000 in
theorem right_any (b wd m r ce lg st : Int) (w : World) (ht : LimTab w) :
    Calls Tryz.prog 79 #[.agg #[.int .i64 b, .int .i64 wd, .int .i64 m, .int .i64 r, .int .i64 ce, .int .i64 lg, .int .i64 st]] w
      fun e w' => e = .returned (.bool (rightB b wd m r ce lg st)) ∧ Below w.heap.size w w' := by
  have hq := fun w => run_eq_right b wd m r ce lg st w
  have hgd := guardCfg
  go_enter Tryz.func79, Tryz.ntmps79
  go_wp2
  go_region_held3 (fun w' => w'.cell? ⟨w.heap.size, 0, none⟩ = some (.int .i64 b) ∧ w'.cell? ⟨w.heap.size, 1, none⟩ = some (.int .i64 wd) ∧ w'.cell? ⟨w.heap.size, 2, none⟩ = some (.int .i64 m)
     ∧ w'.cell? ⟨w.heap.size, 3, none⟩ = some (.int .i64 r) ∧ w'.cell? ⟨w.heap.size, 4, none⟩ = some (.int .i64 ce) ∧ w'.cell? ⟨w.heap.size, 5, none⟩ = some (.int .i64 lg) ∧ w'.cell? ⟨w.heap.size, 6, none⟩ = some (.int .i64 st)) (go_keep)
    (first
      | (go_at_call 104; refine (clamp_any _ _ _ _ _ _ _ _ (by repeat (first | exact ht | apply LimTab.drewN | apply LimTab.drew | apply LimTab.alloc))).mono ?_; rintro e w' ⟨rfl, hb⟩; simp only [clampV]; obtain ⟨hc, hf⟩ := bcell hb))
  rename_i hheld
  clear hheld hq hgd hc hf
  go_wp2
  go_ret
  exact ⟨rfl, ((below_drew ((Below.refl _ _).alloc (Nat.le_refl _) _)).trans (hb.mono (by simp)))⟩

end Go.Proofs.YthpgnlcmpoldfaaGreatDoor

namespace Go.Proofs.YthpgnlcmpoldfaaGreatDoor
def slotsI (b wd : Int) : Int := b * (wd / 2)
def opI (lg wd : Int) : Int := 64 + 4 * lg + wd
def ansI (r lg : Int) : Int := 16 + r * (lg + 8) + 4 * lg
def restI (b wd m r lg : Int) : Int := 2 * b * (wd + 8) + 3 * opI lg wd + 2 * ansI r lg + 4 * m + 60
def looksI (n m ce lg : Int) : Int := 40 * n + 2 * m * (lg + 4) + 2 * ce
def markI (b wd m r ce lg : Int) : Int := (2 * slotsI b wd + 6) * (looksI (slotsI b wd) m ce lg + opI lg wd + ansI r lg + 40)

/-- The greatest number of picks there is. -/
def topI : Int := 4611686018427387904
/-- A product, at most topI; 0 of what is below 1. -/
def timesI (k n : Int) : Int := if k < 1 then 0 else if n < 1 then 0 else if topI / n < k then topI else k * n
theorem timesI_k0 {k n : Int} (h : k < 1) : timesI k n = 0 := by unfold timesI; rw [if_pos h]
theorem timesI_n0 {k n : Int} (h : ¬ k < 1) (h2 : n < 1) : timesI k n = 0 := by unfold timesI; rw [if_neg h, if_pos h2]
theorem timesI_top {k n : Int} (h : ¬ k < 1) (h2 : ¬ n < 1) (h3 : topI / n < k) : timesI k n = topI := by unfold timesI; rw [if_neg h, if_neg h2, if_pos h3]
theorem timesI_mul {k n : Int} (h : ¬ k < 1) (h2 : ¬ n < 1) (h3 : ¬ topI / n < k) : timesI k n = k * n := by unfold timesI; rw [if_neg h, if_neg h2, if_neg h3]
theorem timesI_bd {k n : Int} (h : ¬ k < 1) (h2 : ¬ n < 1) (h3 : ¬ topI / n < k) : 0 ≤ k * n ∧ k * n ≤ topI := by
  refine ⟨Int.mul_nonneg (by omega) (by omega), ?_⟩
  exact (Int.le_ediv_iff_mul_le (by omega)).1 (Int.not_lt.1 h3)
theorem timesI_zero (k : Int) : timesI k 0 = 0 := by
  by_cases h : k < 1
  · exact timesI_k0 h
  · exact timesI_n0 h (by omega)

structure RightC (b wd m r ce lg st : Int) : Prop where
  b0 : 1 ≤ b
  b1 : b ≤ 4096
  wd0 : 16 ≤ wd
  wd1 : wd ≤ 256
  m0 : 1 ≤ m
  m1 : m ≤ 8
  r0 : 1 ≤ r
  r1 : r ≤ 64
  ce0 : 0 ≤ ce
  ce1 : ce ≤ 64
  lg0 : 1 ≤ lg
  lg1 : lg ≤ 256
  st0 : 1 ≤ st
  st1 : st ≤ 4096

theorem mul_bd {a c A C : Int} (a0 : 0 ≤ a) (a1 : a ≤ A) (c0 : 0 ≤ c) (c1 : c ≤ C) : 0 ≤ a * c ∧ a * c ≤ A * C :=
  ⟨Int.mul_nonneg a0 c0, Int.mul_le_mul a1 c1 c0 (Int.le_trans a0 a1)⟩

/-- Is a number from a least one to a greatest one? -/
def withinB (n lo hi : Int) : Bool := decide (lo ≤ n) && decide (n ≤ hi)
def refRightB (b wd m r ce lg st : Int) : Bool := withinB b 1 4096 && (withinB wd 16 256 && (withinB m 1 8 && (withinB r 1 64 && (withinB ce 0 64 && (withinB lg 1 256 && withinB st 1 4096)))))
theorem refRightB_true {b wd m r ce lg st : Int} : refRightB b wd m r ce lg st = true ↔ RightC b wd m r ce lg st := by
  simp only [refRightB, withinB, Bool.and_eq_true, decide_eq_true_eq]
  exact ⟨fun ⟨⟨a, b⟩, ⟨c, d⟩, ⟨e, f⟩, ⟨g, h⟩, ⟨i, j⟩, ⟨k, l⟩, ⟨m, n⟩⟩ => ⟨a, b, c, d, e, f, g, h, i, j, k, l, m, n⟩,
    fun ⟨a, b, c, d, e, f, g, h, i, j, k, l, m, n⟩ => ⟨⟨a, b⟩, ⟨c, d⟩, ⟨e, f⟩, ⟨g, h⟩, ⟨i, j⟩, ⟨k, l⟩, ⟨m, n⟩⟩⟩

namespace RightC
variable {b wd m r ce lg st : Int}
theorem words (h : RightC b wd m r ce lg st) : 0 ≤ b * wd ∧ b * wd ≤ 1048576 := by
  obtain ⟨b0, b1, wd0, wd1, m0, m1, r0, r1, ce0, ce1, lg0, lg1, st0, st1⟩ := h
  have := mul_bd (a := b) (c := wd) (A := 4096) (C := 256) (by omega) (by omega) (by omega) (by omega)
  omega
theorem slots (h : RightC b wd m r ce lg st) : 0 ≤ b * (wd / 2) ∧ b * (wd / 2) ≤ 524288 := by
  obtain ⟨b0, b1, wd0, wd1, m0, m1, r0, r1, ce0, ce1, lg0, lg1, st0, st1⟩ := h
  have := mul_bd (a := b) (c := wd / 2) (A := 4096) (C := 128) (by omega) (by omega) (by omega) (by omega)
  omega
theorem slots1 (h : RightC b wd m r ce lg st) : 8 ≤ slotsI b wd ∧ slotsI b wd ≤ 524288 := by
  have h1 := h.slots
  obtain ⟨b0, b1, wd0, wd1, m0, m1, r0, r1, ce0, ce1, lg0, lg1, st0, st1⟩ := h
  have := Int.mul_le_mul (a := 1) (b := 8) (c := b) (d := wd / 2) b0 (by omega) (by omega) (by omega)
  unfold slotsI
  omega
theorem regs (h : RightC b wd m r ce lg st) : 0 ≤ r * (lg + 8) ∧ r * (lg + 8) ≤ 16896 := by
  obtain ⟨b0, b1, wd0, wd1, m0, m1, r0, r1, ce0, ce1, lg0, lg1, st0, st1⟩ := h
  have := mul_bd (a := r) (c := lg + 8) (A := 64) (C := 264) (by omega) (by omega) (by omega) (by omega)
  omega
theorem rest (h : RightC b wd m r ce lg st) : 0 ≤ 2 * b * (wd + 8) ∧ 2 * b * (wd + 8) ≤ 2162688 := by
  obtain ⟨b0, b1, wd0, wd1, m0, m1, r0, r1, ce0, ce1, lg0, lg1, st0, st1⟩ := h
  have := mul_bd (a := 2 * b) (c := wd + 8) (A := 8192) (C := 264) (by omega) (by omega) (by omega) (by omega)
  omega
theorem muts (h : RightC b wd m r ce lg st) : 0 ≤ 2 * m * (lg + 4) ∧ 2 * m * (lg + 4) ≤ 4160 := by
  obtain ⟨b0, b1, wd0, wd1, m0, m1, r0, r1, ce0, ce1, lg0, lg1, st0, st1⟩ := h
  have := mul_bd (a := 2 * m) (c := lg + 4) (A := 16) (C := 260) (by omega) (by omega) (by omega) (by omega)
  omega
theorem op (h : RightC b wd m r ce lg st) : 84 ≤ opI lg wd ∧ opI lg wd ≤ 1344 := by
  obtain ⟨b0, b1, wd0, wd1, m0, m1, r0, r1, ce0, ce1, lg0, lg1, st0, st1⟩ := h
  unfold opI; omega
theorem ans (h : RightC b wd m r ce lg st) : 20 ≤ ansI r lg ∧ ansI r lg ≤ 17936 := by
  have h1 := h.regs
  obtain ⟨b0, b1, wd0, wd1, m0, m1, r0, r1, ce0, ce1, lg0, lg1, st0, st1⟩ := h
  unfold ansI; omega
theorem looks (h : RightC b wd m r ce lg st) : 0 ≤ looksI (slotsI b wd) m ce lg ∧ looksI (slotsI b wd) m ce lg ≤ 20975808 := by
  have h1 := h.muts
  have h2 := h.slots1
  obtain ⟨b0, b1, wd0, wd1, m0, m1, r0, r1, ce0, ce1, lg0, lg1, st0, st1⟩ := h
  unfold looksI; omega
theorem mark (h : RightC b wd m r ce lg st) : 22 ≤ markI b wd m r ce lg ∧ markI b wd m r ce lg ≤ 30000000000000 := by
  have h1 := h.looks
  have h2 := h.slots1
  have h3 := h.op
  have h4 := h.ans
  have := mul_bd (a := 2 * slotsI b wd + 6) (c := looksI (slotsI b wd) m ce lg + opI lg wd + ansI r lg + 40) (A := 1048582) (C := 20995128) (by omega) (by omega) (by omega) (by omega)
  have := Int.mul_le_mul (a := 22) (b := 1) (c := 2 * slotsI b wd + 6) (d := looksI (slotsI b wd) m ce lg + opI lg wd + ansI r lg + 40) (by omega) (by omega) (by omega) (by omega)
  unfold markI
  omega
theorem restB (h : RightC b wd m r ce lg st) : 1 ≤ restI b wd m r lg ∧ restI b wd m r lg ≤ 3000000 := by
  have h1 := h.rest
  have h3 := h.op
  have h4 := h.ans
  obtain ⟨b0, b1, wd0, wd1, m0, m1, r0, r1, ce0, ce1, lg0, lg1, st0, st1⟩ := h
  unfold restI; omega
end RightC

/-- A number, at most topI. -/
def capI (x : Int) : Int := if topI < x then topI else x
theorem timesI_cap {a c : Int} (ha : 1 ≤ a) (hc : 1 ≤ c) : timesI a c = capI (a * c) := by
  by_cases h : topI / c < a
  · rw [timesI_top (by omega) (by omega) h]
    have : topI < a * c := (Int.ediv_lt_iff_lt_mul (by omega)).1 h
    unfold capI
    rw [if_pos this]
  · rw [timesI_mul (by omega) (by omega) h]
    have := (timesI_bd (k := a) (n := c) (by omega) (by omega) h).2
    unfold capI
    rw [if_neg (by omega)]
theorem reftimes_top {a c : Int} (ha : 1 ≤ a) (hc : 1 ≤ c) (h : topI / a < c) : timesI a c = topI := by
  rw [timesI_cap ha hc]
  have : topI < a * c := by rw [Int.mul_comm]; exact (Int.ediv_lt_iff_lt_mul (by omega)).1 h
  unfold capI
  rw [if_pos this]
theorem reftimes_mul {a c : Int} (ha : 1 ≤ a) (hc : 1 ≤ c) (h : ¬ topI / a < c) : timesI a c = a * c ∧ 0 ≤ a * c ∧ a * c ≤ topI := by
  have h1 : a * c ≤ topI := by rw [Int.mul_comm]; exact (Int.le_ediv_iff_mul_le (by omega)).1 (Int.not_lt.1 h)
  refine ⟨?_, Int.mul_nonneg (by omega) (by omega), h1⟩
  rw [timesI_cap ha hc]
  unfold capI
  rw [if_neg (by omega)]
theorem one_le_mul {a c : Int} (ha : 1 ≤ a) (hc : 1 ≤ c) : a ≤ a * c := by
  have := Int.mul_le_mul_of_nonneg_left hc (show (0 : Int) ≤ a by omega)
  omega
theorem timesI_pos {a c : Int} (ha : 1 ≤ a) (hc : 1 ≤ c) : 1 ≤ timesI a c ∧ timesI a c ≤ topI := by
  rw [timesI_cap ha hc]
  have := one_le_mul ha hc
  unfold capI topI
  split <;> omega
theorem timesI_assoc {k y x : Int} (hk : 1 ≤ k) (hy : 1 ≤ y) (hx : 1 ≤ x) : timesI (timesI k y) x = timesI k (y * x) := by
  have h1 := one_le_mul hy hx
  have h2 := one_le_mul hk hy
  rw [timesI_cap (timesI_pos hk hy).1 hx, timesI_cap hk hy, timesI_cap hk (by omega), ← Int.mul_assoc]
  have h3 := one_le_mul (show (1 : Int) ≤ k * y by omega) hx
  have h4 : topI ≤ topI * x := one_le_mul (by decide) hx
  unfold capI
  by_cases h : topI < k * y
  · rw [if_pos h, if_pos (show topI < k * y * x by omega)]
    split <;> omega
  · rw [if_neg h]
theorem timesI_add {k u v : Int} (hk : 1 ≤ k) (hu : 1 ≤ u) (hv : 1 ≤ v) :
    (if topI - timesI k v < timesI k u then topI else timesI k u + timesI k v) = timesI k (u + v) := by
  rw [timesI_cap hk hu, timesI_cap hk hv, timesI_cap hk (by omega), Int.mul_add]
  have h2 := one_le_mul hk hu
  have h3 := one_le_mul hk hv
  generalize k * u = p at *
  generalize k * v = q at *
  unfold capI topI
  (repeat' split) <;> omega
theorem refmark_eq {b wd m r ce lg st k : Int} (hk : 1 ≤ k) (hR : RightC b wd m r ce lg st) :
    timesI (timesI k (2 * slotsI b wd + 6)) (40 * slotsI b wd + 2 * m * (lg + 4) + 2 * ce + opI lg wd + ansI r lg + 40) = timesI k (markI b wd m r ce lg) := by
  have h1 := hR.slots1
  have h2 := hR.looks
  have h3 := hR.op
  have h4 := hR.ans
  have h5 : 40 * slotsI b wd + 2 * m * (lg + 4) + 2 * ce = looksI (slotsI b wd) m ce lg := rfl
  rw [h5, timesI_assoc hk (by omega) (by omega)]
  rfl
theorem slots_mono {b wd b' wd' : Int} (b0 : 0 ≤ b) (w0 : 0 ≤ wd) (hb : b ≤ b') (hw : wd ≤ wd') : slotsI b wd ≤ slotsI b' wd' := by
  unfold slotsI
  exact Int.mul_le_mul hb (by omega) (by omega) (by omega)
theorem mark_mono {b wd m r ce lg st b' wd' m' r' ce' lg' st' : Int} (h : RightC b wd m r ce lg st) (h' : RightC b' wd' m' r' ce' lg' st')
    (hb : b ≤ b') (hw : wd ≤ wd') (hm : m ≤ m') (hr : r ≤ r') (hc : ce ≤ ce') (hl : lg ≤ lg') : markI b wd m r ce lg ≤ markI b' wd' m' r' ce' lg' := by
  have s0 := h.slots1
  have l0 := h.looks
  have o0 := h.op
  have a0 := h.ans
  have s1 := slots_mono (b := b) (wd := wd) (by have := h.b0; omega) (by have := h.wd0; omega) hb hw
  have e1 : 2 * m * (lg + 4) ≤ 2 * m' * (lg' + 4) := Int.mul_le_mul (by omega) (by omega) (by have := h.lg0; omega) (by have := h'.m0; omega)
  have e2 : r * (lg + 8) ≤ r' * (lg' + 8) := Int.mul_le_mul hr (by omega) (by have := h.lg0; omega) (by have := h'.r0; omega)
  have l1 : looksI (slotsI b wd) m ce lg ≤ looksI (slotsI b' wd') m' ce' lg' := by unfold looksI; omega
  have o1 : opI lg wd ≤ opI lg' wd' := by unfold opI; omega
  have a1 : ansI r lg ≤ ansI r' lg' := by unfold ansI; omega
  unfold markI
  exact Int.mul_le_mul (by omega) (by omega) (by omega) (by omega)
theorem rest_mono {b wd m r ce lg st b' wd' m' r' ce' lg' st' : Int} (h : RightC b wd m r ce lg st) (h' : RightC b' wd' m' r' ce' lg' st')
    (hb : b ≤ b') (hw : wd ≤ wd') (hm : m ≤ m') (hr : r ≤ r') (hl : lg ≤ lg') : restI b wd m r lg ≤ restI b' wd' m' r' lg' := by
  have e1 : 2 * b * (wd + 8) ≤ 2 * b' * (wd' + 8) := Int.mul_le_mul (by omega) (by omega) (by have := h.wd0; omega) (by have := h'.b0; omega)
  have e2 : r * (lg + 8) ≤ r' * (lg' + 8) := Int.mul_le_mul hr (by omega) (by have := h.lg0; omega) (by have := h'.r0; omega)
  unfold restI opI ansI
  omega
theorem timesI_mono {k u v : Int} (hu : 1 ≤ u) (hv : u ≤ v) : timesI k u ≤ timesI k v := by
  by_cases hk : k < 1
  · rw [timesI_k0 hk, timesI_k0 hk]; exact Int.le_refl _
  · rw [timesI_cap (by omega) hu, timesI_cap (by omega) (by omega)]
    have : k * u ≤ k * v := Int.mul_le_mul_of_nonneg_left hv (by omega)
    unfold capI
    (repeat' split) <;> omega
end Go.Proofs.YthpgnlcmpoldfaaGreatDoor

namespace Go.Proofs.YthpgnlcmpoldfaaGreatDoor
open Go.RowKit

/-- A world later than one with the table has the table. -/
theorem LimTab.later {w w' : World} (h : LimTab w) (hb : Below w.heap.size w w') : LimTab w' := h.below hb h.blk

set_option maxHeartbeats 400000 in
theorem words_no (b wd m r ce lg st : Int) (w : World) (ht : LimTab w) (hr : rightB b wd m r ce lg st = false) :
    Calls Tryz.prog 80 #[.agg #[.int .i64 b, .int .i64 wd, .int .i64 m, .int .i64 r, .int .i64 ce, .int .i64 lg, .int .i64 st]] w
      fun e w' => e = .returned (.int .i64 0) ∧ Below w.heap.size w w' := by
  go_enter Tryz.func80, Tryz.ntmps80
  go_wp2_with (first | (go_at_call 105; go_in) | (go_at_call 79; refine (right_any _ _ _ _ _ _ _ _ (by repeat (first | exact ht | apply LimTab.drewN | apply LimTab.drew | apply LimTab.alloc | (refine LimTab.later ?_ (by assumption))))).mono ?_; rintro e w' ⟨rfl, hb⟩; rw [hr]))
  go_ret
  exact ⟨rfl, (((Below.refl _ _).alloc (Nat.le_refl _) _).alloc (by simp) _).trans (hb.mono (by simp; omega))⟩

set_option maxHeartbeats 400000 in
theorem words_yes (b wd m r ce lg st : Int) (w : World) (ht : LimTab w) (hR : RightC b wd m r ce lg st) (hr : rightB b wd m r ce lg st = true) :
    Calls Tryz.prog 80 #[.agg #[.int .i64 b, .int .i64 wd, .int .i64 m, .int .i64 r, .int .i64 ce, .int .i64 lg, .int .i64 st]] w
      fun e w' => e = .returned (.int .i64 (b * wd)) ∧ Below w.heap.size w w' := by
  obtain ⟨p0, p1⟩ := hR.words
  obtain ⟨b0, b1, wd0, wd1, m0, m1, r0, r1, ce0, ce1, lg0, lg1, st0, st1⟩ := hR
  go_enter Tryz.func80, Tryz.ntmps80
  go_wp2_with (first | (go_at_call 105; go_in) | (go_at_call 106; go_in) | (go_at_call 79; refine (right_any _ _ _ _ _ _ _ _ (by repeat (first | exact ht | apply LimTab.drewN | apply LimTab.drew | apply LimTab.alloc | (refine LimTab.later ?_ (by assumption))))).mono ?_; rintro e w' ⟨rfl, hb⟩; rw [hr]; obtain ⟨hc, hf⟩ := bcell hb))
  go_ret
  exact ⟨ret_int (by first | rfl | (simp only [slotsI, opI, ansI]; done) | (simp only [slotsI, opI, ansI]; omega)), (((Below.refl _ _).alloc (Nat.le_refl _) _).alloc (by simp) _).trans (hb.mono (by simp; omega))⟩

end Go.Proofs.YthpgnlcmpoldfaaGreatDoor

namespace Go.Proofs.YthpgnlcmpoldfaaGreatDoor
open Go.RowKit

theorem rightB_ref (b wd m r ce lg st : Int) : rightB b wd m r ce lg st = refRightB b wd m r ce lg st := by
  have h : ∀ n lo hi : Int, lo ≤ hi → (n == nearI n lo hi) = withinB n lo hi := fun n lo hi hl => by
    unfold nearI withinB
    rw [Bool.eq_iff_iff]
    simp only [beq_iff_eq, Bool.and_eq_true, decide_eq_true_eq]
    (repeat' split) <;> omega
  simp only [rightB, refRightB, clampAt]
  simp only [h _ _ _ (show (1 : Int) ≤ 4096 by decide), h _ _ _ (show (16 : Int) ≤ 256 by decide), h _ _ _ (show (1 : Int) ≤ 8 by decide), h _ _ _ (show (1 : Int) ≤ 64 by decide), h _ _ _ (show (0 : Int) ≤ 64 by decide), h _ _ _ (show (1 : Int) ≤ 256 by decide), if_true, show ¬ (1 : Int) = 0 by decide, show ¬ (2 : Int) = 0 by decide, show ¬ (2 : Int) = 1 by decide, show ¬ (3 : Int) = 0 by decide, show ¬ (3 : Int) = 1 by decide, show ¬ (3 : Int) = 2 by decide, show ¬ (4 : Int) = 0 by decide, show ¬ (4 : Int) = 1 by decide, show ¬ (4 : Int) = 2 by decide, show ¬ (4 : Int) = 3 by decide, show ¬ (5 : Int) = 0 by decide, show ¬ (5 : Int) = 1 by decide, show ¬ (5 : Int) = 2 by decide, show ¬ (5 : Int) = 3 by decide, show ¬ (5 : Int) = 4 by decide, show ¬ (6 : Int) = 0 by decide, show ¬ (6 : Int) = 1 by decide, show ¬ (6 : Int) = 2 by decide, show ¬ (6 : Int) = 3 by decide, show ¬ (6 : Int) = 4 by decide, show ¬ (6 : Int) = 5 by decide, if_false]

theorem ret_bool {a b : Bool} (h : a = b) : Ending.returned (.bool a) = .returned (.bool b) := by rw [h]

set_option maxHeartbeats 400000 in
theorem within_any (n lo hi : Int) (w : World) :
    Calls Tryz.prog 55 #[.int .i64 n, .int .i64 lo, .int .i64 hi] w fun e w' => e = .returned (.bool (withinB n lo hi)) ∧ w' = w := by
  by_cases h1 : lo ≤ n
  · by_cases h2 : n ≤ hi
    · have e : withinB n lo hi = true := by simp [withinB, h1, h2]
      rw [e]
      clear e
      go_enter Tryz.func55, Tryz.ntmps55
      go_wp2
      go_ret
      exact ⟨rfl, rfl⟩
    · have e : withinB n lo hi = false := by simp [withinB, h2]
      rw [e]
      clear e
      go_enter Tryz.func55, Tryz.ntmps55
      go_wp2
      go_ret
      exact ⟨rfl, rfl⟩
  · have e : withinB n lo hi = false := by simp [withinB, h1]
    rw [e]
    clear e
    go_enter Tryz.func55, Tryz.ntmps55
    go_wp2
    go_ret
    exact ⟨rfl, rfl⟩

set_option maxHeartbeats 2000000 in
theorem refright_any (b wd m r ce lg st : Int) (w : World) :
    Calls Tryz.prog 8 #[.agg #[.int .i64 b, .int .i64 wd, .int .i64 m, .int .i64 r, .int .i64 ce, .int .i64 lg, .int .i64 st]] w fun e w' => e = .returned (.bool (refRightB b wd m r ce lg st)) ∧ Below w.heap.size w w' := by
  go_enter Tryz.func8, Tryz.ntmps8
  go_wp2_with (go_at_call 55; refine (within_any _ _ _ _).mono ?_; rintro e w' ⟨rfl, hw⟩; rw [hw]; clear hw)
  all_goals go_ret
  all_goals exact ⟨ret_bool (by simp [refRightB, *]), (Below.refl _ _).alloc (Nat.le_refl _) _⟩

theorem rightC_right {b wd m r ce lg st : Int} (h : RightC b wd m r ce lg st) : rightB b wd m r ce lg st = true := by
  rw [rightB_ref]; exact refRightB_true.2 h
end Go.Proofs.YthpgnlcmpoldfaaGreatDoor
