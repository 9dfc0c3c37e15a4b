/-
  Of no heap nothing comes; what is told of a heap's config, table and free slots.
-/
import Derived.Test.YtcoolapancdioaaGreatDoorHpQ
import Derived.Test.YtcoolapancdioaaGreatDoorHpF
namespace Go.Proofs.YtcoolapancdioaaGreatDoor.Hp
open Go.RowKit Go.Shelf
open Class (isB isB_true isB_false below_drewN)
open Blk (Cfg TbIs collect_any cellsF)
open Go.Proofs.YtcoolapancdioaaGreatDoor.Row (Chg cellsZ)
open Go.Proofs.YtcoolapancdioaaGreatDoor.Addr (Tabs)

set_option maxRecDepth 100000 in
set_option maxHeartbeats 1000000 in
theorem color_nil (a : Int) (w : World) : Calls Tryz.prog 18 #[.pointer none, .int .i64 a] w fun e w' => e = .returned (.tuple #[.int .i64 0, .int .i64 11]) ∧ Below w.heap.size w w' := by
  go_enter Tryz.func18, Tryz.ntmps18
  go_wp2_with (go_enter Tryz.func64, Tryz.ntmps64)
  go_ret2
  exact ⟨rfl, three_new _ _ _ _ _ _⟩
set_option maxRecDepth 100000 in
set_option maxHeartbeats 1000000 in
theorem paint_nil (a c : Int) (w : World) : Calls Tryz.prog 26 #[.pointer none, .int .i64 a, .int .i64 c] w fun e w' => e = .returned (.tuple #[.bool false, .int .i64 11]) ∧ Below w.heap.size w w' := by
  go_enter Tryz.func26, Tryz.ntmps26
  go_wp2_with (go_enter Tryz.func64, Tryz.ntmps64)
  go_ret2
  exact ⟨rfl, (three_new _ _ _ _ _ _).alloc (by simp; omega) _⟩
set_option maxRecDepth 100000 in
set_option maxHeartbeats 1000000 in
theorem free_nil (a : Int) (w : World) : Calls Tryz.prog 31 #[.pointer none, .int .i64 a] w fun e w' => e = .returned (.int .i64 11) ∧ Below w.heap.size w w' := by
  go_enter Tryz.func31, Tryz.ntmps31
  go_wp2_with (go_enter Tryz.func64, Tryz.ntmps64)
  go_ret
  exact ⟨rfl, two_new _ _ _ _⟩
theorem table_nil (w : World) : Calls Tryz.prog 35 #[.pointer none] w fun e w' => e = .returned (.pointer none) ∧ w = w' := by
  go_enter Tryz.func35, Tryz.ntmps35
  go_wp2
  go_ret
  exact ⟨rfl, rfl⟩
theorem frees_nil (k : Int) (w : World) : Calls Tryz.prog 37 #[.pointer none, .int .i64 k] w fun e w' => e = .returned (.slice none 0 0) ∧ w = w' := by
  go_enter Tryz.func37, Tryz.ntmps37
  go_wp2
  go_ret
  exact ⟨rfl, rfl⟩
theorem config_nil (w : World) : Calls Tryz.prog 34 #[.pointer none] w fun e w' => e = .returned (.agg #[.int .i64 0, .int .i64 0, .int .i64 0, .int .i64 0, .int .i64 0, .int .i64 0, .int .i64 0]) ∧ Below w.heap.size w w' := by
  go_enter Tryz.func34, Tryz.ntmps34
  go_wp2
  exact bodyPost_ret (v := .agg #[.int .i64 0, .int .i64 0, .int .i64 0, .int .i64 0, .int .i64 0, .int .i64 0, .int .i64 0]) (by simp [results, Tryz.results34, go_sem]) rfl ⟨rfl, (Below.refl _ _).alloc (Nat.le_refl _) _⟩
end Go.Proofs.YtcoolapancdioaaGreatDoor.Hp
