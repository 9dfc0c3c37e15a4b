/-
  config.Clamp and config.Right, for every seven numbers, wherever the table of limits lies as it was laid.
-/
import Derived.Test.YtcdnbheoelnghaaDoorConfigWalks
import Derived.Deep.RegionWith
namespace Go.Proofs.YtcdnbheoelnghaaDoor
open Go.RowKit

theorem bcell {W w1 : World} (hb : Below W.heap.size W w1) : (∀ b o, b < W.heap.size → w1.cell? ⟨b, o, none⟩ = W.cell? ⟨b, o, none⟩) ∧ (∀ b o, b < W.heap.size → w1.frozen? ⟨b, o, none⟩ = W.frozen? ⟨b, o, none⟩) :=
  ⟨fun b o h => hb.cell (p := ⟨b, o, none⟩) h, fun b o h => hb.frozen (p := ⟨b, o, none⟩) h⟩

set_option maxHeartbeats 1000000 in
theorem clamp_any (b wd m r ce lg st : Int) (w : World) (ht : LimTab w) :
    Calls Tryd.prog 38 #[.agg #[.int .i64 b, .int .i64 wd, .int .i64 m, .int .i64 r, .int .i64 ce, .int .i64 lg, .int .i64 st]] w
      fun e w' => e = .returned (clampV b wd m r ce lg st) ∧ Below w.heap.size w w' := by
  go_enter Tryd.func38, Tryd.ntmps38
  go_wp2_with (go_at_call 56; refine (each_any _ _ _ _ _ _ _ _ ((ht.alloc _).alloc _)).mono ?_; rintro e w' ⟨rfl, hb⟩; simp only [clampV]; obtain ⟨hc, hf⟩ := bcell hb)
  have b1 : Below w.heap.size w w' := (((Below.refl _ _).alloc (Nat.le_refl _) _).alloc (by simp) _).trans (hb.mono (by simp; omega))
  clear hb hf
  refine bodyPost_ret (v := clampV b wd m r ce lg st) (by simp [results, Tryd.results38, go_sem, clampV, hc]) rfl ⟨rfl, ?_⟩
  exact ((((((b1.setCell (by simp) _).setCell (by simp) _).setCell (by simp) _).setCell (by simp) _).setCell (by simp) _).setCell (by simp) _).setCell (by simp) _

theorem below_drew {B : Nat} {a w : World} (h : Below B a w) : Below B a w.drew := ⟨h.os, h.tape, h.output, h.size, h.block⟩

/-- Is a config right, by its seven numbers? -/
def rightB (b wd m r ce lg st : Int) : Bool := b == clampAt 0 b && (wd == clampAt 1 wd && (m == clampAt 2 m && (r == clampAt 3 r && (ce == clampAt 4 ce && (lg == clampAt 5 lg && st == clampAt 6 st)))))

theorem run_eq_cfg (b wd m r ce lg st b' wd' m' r' ce' lg' st' : Int) (w : World) :
    (binOp .eql 23 (.agg #[.int .i64 b, .int .i64 wd, .int .i64 m, .int .i64 r, .int .i64 ce, .int .i64 lg, .int .i64 st]) (.agg #[.int .i64 b', .int .i64 wd', .int .i64 m', .int .i64 r', .int .i64 ce', .int .i64 lg', .int .i64 st'])).run Tryd.prog w
      = .ok (.bool (b == b' && (wd == wd' && (m == m' && (r == r' && (ce == ce' && (lg == lg' && st == st'))))))) w := by
  have hp : Tryd.prog.stoodInHeld 23 = false := by kernel_rfl
  have hu := Tryd.underlying23
  have h3 := Tryd.underlying3
  have c3 : Tryd.prog.cellsOf 3 = 1 := by kernel_rfl
  rw [run_eql_struct, run_equalIn_agg _ _ _ _ _ (by unfold Program.fieldsOf; rw [hu]) hp]
  unfold Program.fieldsOf
  rw [hu]
  simp only [Op.eqFields]
  simp [go_sem, h3, part]
  (repeat' split) <;> simp [*]

theorem run_eq_right (b wd m r ce lg st : Int) (w : World) :
    (binOp .eql 23 (.agg #[.int .i64 b, .int .i64 wd, .int .i64 m, .int .i64 r, .int .i64 ce, .int .i64 lg, .int .i64 st]) (.agg #[.int .i64 (clampAt 0 b), .int .i64 (clampAt 1 wd), .int .i64 (clampAt 2 m), .int .i64 (clampAt 3 r), .int .i64 (clampAt 4 ce), .int .i64 (clampAt 5 lg), .int .i64 (clampAt 6 st)])).run Tryd.prog w
      = .ok (.bool (rightB b wd m r ce lg st)) w := run_eq_cfg _ _ _ _ _ _ _ _ _ _ _ _ _ _ w
theorem guardCfg : Tryd.prog.eqGuardType Tryd.prog.depth 23 = false := by kernel_rfl

set_option maxHeartbeats 1000000 in
theorem right_any (b wd m r ce lg st : Int) (w : World) (ht : LimTab w) :
    Calls Tryd.prog 24 #[.agg #[.int .i64 b, .int .i64 wd, .int .i64 m, .int .i64 r, .int .i64 ce, .int .i64 lg, .int .i64 st]] w
      fun e w' => e = .returned (.bool (rightB b wd m r ce lg st)) ∧ Below w.heap.size w w' := by
  have hq := fun w => run_eq_right b wd m r ce lg st w
  have hgd := guardCfg
  go_enter Tryd.func24, Tryd.ntmps24
  go_wp2
  go_region_held3 (fun w' => w'.cell? ⟨w.heap.size, 0, none⟩ = some (.int .i64 b) ∧ w'.cell? ⟨w.heap.size, 1, none⟩ = some (.int .i64 wd) ∧ w'.cell? ⟨w.heap.size, 2, none⟩ = some (.int .i64 m)
     ∧ w'.cell? ⟨w.heap.size, 3, none⟩ = some (.int .i64 r) ∧ w'.cell? ⟨w.heap.size, 4, none⟩ = some (.int .i64 ce) ∧ w'.cell? ⟨w.heap.size, 5, none⟩ = some (.int .i64 lg) ∧ w'.cell? ⟨w.heap.size, 6, none⟩ = some (.int .i64 st)) (go_keep)
    (first
      | (go_at_call 38; refine (clamp_any _ _ _ _ _ _ _ _ (by repeat (first | exact ht | apply LimTab.drewN | apply LimTab.drew | apply LimTab.alloc))).mono ?_; rintro e w' ⟨rfl, hb⟩; simp only [clampV]; obtain ⟨hc, hf⟩ := bcell hb))
  rename_i hheld
  clear hheld hq hgd hc hf
  go_wp2
  go_ret
  exact ⟨rfl, ((below_drew ((Below.refl _ _).alloc (Nat.le_refl _) _)).trans (hb.mono (by simp)))⟩

end Go.Proofs.YtcdnbheoelnghaaDoor
