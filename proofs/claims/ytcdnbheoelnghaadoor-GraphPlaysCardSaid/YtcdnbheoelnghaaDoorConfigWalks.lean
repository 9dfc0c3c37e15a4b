/-
  config.Clamp$1 and config.each answer each number brought to its nearest limit, wherever the table of limits lies as it was laid (LimTab).
-/
import Derived.Test.YtcdnbheoelnghaaDoorRows
import Derived.WalkKit
import Derived.WalkSpells
import Derived.WalkLawsBesides
import Derived.Deep.QuietTactic
import Derived.BigQuiet
import Derived.Deep.RegionHeld3
import Derived.Lib.Hide
namespace Go.Proofs.YtcdnbheoelnghaaDoor
open Go.RowKit

theorem below_drewN {B : Nat} {a w : World} (h : Below B a w) (n : Nat) : Below B a (w.drewN n) := ⟨h.os, h.tape, h.output, h.size, h.block⟩

/-- A number brought to the nearest that may be. -/
def nearI (n lo hi : Int) : Int := if hi < (if n < lo then lo else n) then hi else (if n < lo then lo else n)

theorem ret_int {k : IntKind} {a b : Int} (h : a = b) : Ending.returned (.int k a) = .returned (.int k b) := by rw [h]

/-- The table of limits, cell by cell. -/
structure LimTab (w : World) : Prop where
  l0 : w.cell? ⟨1, 0, none⟩ = some (.int .i64 1)
  h0 : w.cell? ⟨1, 1, none⟩ = some (.int .i64 4096)
  l1 : w.cell? ⟨1, 2, none⟩ = some (.int .i64 16)
  h1 : w.cell? ⟨1, 3, none⟩ = some (.int .i64 256)
  l2 : w.cell? ⟨1, 4, none⟩ = some (.int .i64 1)
  h2 : w.cell? ⟨1, 5, none⟩ = some (.int .i64 8)
  l3 : w.cell? ⟨1, 6, none⟩ = some (.int .i64 1)
  h3 : w.cell? ⟨1, 7, none⟩ = some (.int .i64 64)
  l4 : w.cell? ⟨1, 8, none⟩ = some (.int .i64 0)
  h4 : w.cell? ⟨1, 9, none⟩ = some (.int .i64 64)
  l5 : w.cell? ⟨1, 10, none⟩ = some (.int .i64 1)
  h5 : w.cell? ⟨1, 11, none⟩ = some (.int .i64 256)
  l6 : w.cell? ⟨1, 12, none⟩ = some (.int .i64 1)
  h6 : w.cell? ⟨1, 13, none⟩ = some (.int .i64 4096)
  blk : 1 < w.heap.size

theorem LimTab.below {n : Nat} {w w' : World} (h : LimTab w) (hb : Below n w w') (hn : 1 < n) : LimTab w' :=
  ⟨(hb.cell (p := ⟨_, 0, none⟩) hn).trans h.l0, (hb.cell (p := ⟨_, 1, none⟩) hn).trans h.h0, (hb.cell (p := ⟨_, 2, none⟩) hn).trans h.l1, (hb.cell (p := ⟨_, 3, none⟩) hn).trans h.h1,
   (hb.cell (p := ⟨_, 4, none⟩) hn).trans h.l2, (hb.cell (p := ⟨_, 5, none⟩) hn).trans h.h2, (hb.cell (p := ⟨_, 6, none⟩) hn).trans h.l3, (hb.cell (p := ⟨_, 7, none⟩) hn).trans h.h3,
   (hb.cell (p := ⟨_, 8, none⟩) hn).trans h.l4, (hb.cell (p := ⟨_, 9, none⟩) hn).trans h.h4, (hb.cell (p := ⟨_, 10, none⟩) hn).trans h.l5, (hb.cell (p := ⟨_, 11, none⟩) hn).trans h.h5,
   (hb.cell (p := ⟨_, 12, none⟩) hn).trans h.l6, (hb.cell (p := ⟨_, 13, none⟩) hn).trans h.h6, Nat.lt_of_lt_of_le h.blk hb.size⟩

set_option maxHeartbeats 400000 in
theorem clamp1_any (p : Nat) (n : Int) (lo hi : Int) (w : World) (hp : p < 7)
    (h1 : w.cell? ⟨1, p * 2, none⟩ = some (.int .i64 lo)) (h2 : w.cell? ⟨1, p * 2 + 1, none⟩ = some (.int .i64 hi)) :
    Calls Tryd.prog 57 #[.int .i64 p, .int .i64 n] w fun e w' => e = .returned (.int .i64 (nearI n lo hi)) ∧ ∃ k, w' = w.drewN k := by
  go_enter Tryd.func57, Tryd.ntmps57
  go_wp2
  go_quiet (fail)
  go_wp2
  all_goals go_ret
  all_goals (refine ⟨ret_int ?_, _, rfl⟩; unfold nearI; (repeat' split) <;> omega)

theorem LimTab.alloc {w : World} (h : LimTab w) (o : Obj) : LimTab (w.alloc o) := h.below ((Below.refl _ _).alloc (Nat.le_refl _) _) h.blk
theorem LimTab.drew {w : World} (h : LimTab w) : LimTab w.drew := ⟨h.l0, h.h0, h.l1, h.h1, h.l2, h.h2, h.l3, h.h3, h.l4, h.h4, h.l5, h.h5, h.l6, h.h6, h.blk⟩
theorem LimTab.drewN {w : World} (h : LimTab w) (k : Nat) : LimTab (w.drewN k) := ⟨h.l0, h.h0, h.l1, h.h1, h.l2, h.h2, h.l3, h.h3, h.l4, h.h4, h.l5, h.h5, h.l6, h.h6, h.blk⟩
/-- A number of a place, brought to the nearest that may be. -/
def clampAt (p n : Int) : Int := if p = 0 then nearI n 1 4096 else if p = 1 then nearI n 16 256 else if p = 2 then nearI n 1 8 else if p = 3 then nearI n 1 64 else if p = 4 then nearI n 0 64 else if p = 5 then nearI n 1 256 else nearI n 1 4096
theorem clamp1_all (p n : Int) (h0 : 0 ≤ p) (h7 : p < 7) (w : World) (ht : LimTab w) :
    Calls Tryd.prog 57 #[.int .i64 p, .int .i64 n] w fun e w' => e = .returned (.int .i64 (clampAt p n)) ∧ ∃ k, w' = w.drewN k := by
  have hp : p = 0 ∨ p = 1 ∨ p = 2 ∨ p = 3 ∨ p = 4 ∨ p = 5 ∨ p = 6 := by omega
  rcases hp with rfl | rfl | rfl | rfl | rfl | rfl | rfl
  · exact clamp1_any 0 n 1 4096 w (by decide) ht.l0 ht.h0
  · exact clamp1_any 1 n 16 256 w (by decide) ht.l1 ht.h1
  · exact clamp1_any 2 n 1 8 w (by decide) ht.l2 ht.h2
  · exact clamp1_any 3 n 1 64 w (by decide) ht.l3 ht.h3
  · exact clamp1_any 4 n 0 64 w (by decide) ht.l4 ht.h4
  · exact clamp1_any 5 n 1 256 w (by decide) ht.l5 ht.h5
  · exact clamp1_any 6 n 1 4096 w (by decide) ht.l6 ht.h6

/-- What is clamped. -/
def clampV (b wd m r ce lg st : Int) : Value := .agg #[.int .i64 (clampAt 0 b), .int .i64 (clampAt 1 wd), .int .i64 (clampAt 2 m), .int .i64 (clampAt 3 r), .int .i64 (clampAt 4 ce), .int .i64 (clampAt 5 lg), .int .i64 (clampAt 6 st)]

set_option maxHeartbeats 1000000 in
theorem each_any (b wd m r ce lg st : Int) (w : World) (ht : LimTab w) :
    Calls Tryd.prog 56 #[.agg #[.int .i64 b, .int .i64 wd, .int .i64 m, .int .i64 r, .int .i64 ce, .int .i64 lg, .int .i64 st], .func (.func 57) #[] #[]] w
      fun e w' => e = .returned (clampV b wd m r ce lg st) ∧ Below w.heap.size w w' := by
  go_enter Tryd.func56, Tryd.ntmps56
  go_wp2
  go_region_held3 (fun w' => w'.cell? ⟨w.heap.size, 0, none⟩ = some (.int .i64 b) ∧ w'.cell? ⟨w.heap.size, 1, none⟩ = some (.int .i64 wd) ∧ w'.cell? ⟨w.heap.size, 2, none⟩ = some (.int .i64 m)
     ∧ w'.cell? ⟨w.heap.size, 3, none⟩ = some (.int .i64 r) ∧ w'.cell? ⟨w.heap.size, 4, none⟩ = some (.int .i64 ce) ∧ w'.cell? ⟨w.heap.size, 5, none⟩ = some (.int .i64 lg) ∧ w'.cell? ⟨w.heap.size, 6, none⟩ = some (.int .i64 st)) (go_keep)
    (first
      | (go_at_call 57; refine (clamp1_all _ _ (by decide) (by decide) _ (by repeat (first | exact ht | apply LimTab.drewN | apply LimTab.drew | apply LimTab.alloc))).mono ?_; rintro e w' ⟨rfl, kd, rfl⟩))
  rename_i hheld
  clear hheld
  generalize 1 + _ + _ + _ + _ + _ + _ + _ = kk
  go_wp2
  refine bodyPost_ret (v := clampV b wd m r ce lg st) (by simp [results, Tryd.results56, go_sem, clampV]) rfl ⟨rfl, ?_⟩
  exact (((((((below_drewN (((Below.refl _ _).alloc (Nat.le_refl _) _).alloc (by simp) _) kk).setCell (by simp) _).setCell (by simp) _).setCell (by simp) _).setCell (by simp) _).setCell (by simp) _).setCell (by simp) _).setCell (by simp) _
end Go.Proofs.YtcdnbheoelnghaaDoor
