/-
  The document's example of heaps.
-/
import Derived.Test.YtcoolapancdioaaGreatDoorHpM
namespace Go.Proofs.YtcoolapancdioaaGreatDoor.Hp
open Go.RowKit
open Blk (Cfg)
open Go.Proofs.YtcoolapancdioaaGreatDoor.Row (Chg)
open Go.Proofs.YtcoolapancdioaaGreatDoor.Addr (Tabs)

def exH : Cfg := ⟨2, 16, 1, 1, 0, 1, 1⟩
theorem exH_right : rightB exH.b exH.wd exH.m exH.r exH.ce exH.lg exH.st = true := by decide
theorem ex1 : mkE (st0 exH 32 0) 1 0 = 0 ∧ mkA (st0 exH 32 0) 1 = 1 := by decide
set_option maxRecDepth 100000 in
theorem ex2 : mkE (mkS (st0 exH 32 0) 1 0) 1 0 = 0 ∧ mkA (mkS (st0 exH 32 0) 1 0) 1 = 3 := by decide

set_option maxRecDepth 100000 in
set_option maxHeartbeats 1000000 in
theorem awake_any (w : World) (ht : Tabs w) : Calls Tryz.prog 9 #[] w fun e w' => e = .returned (.bool true) ∧ Below w.heap.size w w' := by
  have HN := Lib.hid (new_good exH 32 0 w ht exH_right (by decide) (by decide))
  have HT := Lib.hid ht
  have HM1 := Lib.hid (fun (W : World) (H : Nat) (d : Ids) (hI : Is W H d (st0 exH 32 0) 0) (ht : Tabs W) => (by
    have := make_good 1 0 W hI ht (by omega) ex1.1
    rw [ex1.2] at this
    exact this : Calls Tryz.prog 27 #[.pointer (some ⟨H, 0, none⟩), .int .i64 1, .int .i64 0] W fun e w' => e = .returned (.tuple #[.int .i64 (1 : Nat), .int .i64 0]) ∧ To W w' H d (mkS (st0 exH 32 0) 1 0) (0 + 160)))
  have HM2 := Lib.hid (fun (W : World) (H : Nat) (d : Ids) (hI : Is W H d (mkS (st0 exH 32 0) 1 0) (0 + 160)) (ht : Tabs W) => (by
    have := make_good 1 0 W hI ht (by omega) ex2.1
    rw [ex2.2] at this
    exact this.mono fun e w' ⟨x, d', y1, y2, y3⟩ => ⟨x, y2⟩ : Calls Tryz.prog 27 #[.pointer (some ⟨H, 0, none⟩), .int .i64 1, .int .i64 0] W fun e w' => e = .returned (.tuple #[.int .i64 (3 : Nat), .int .i64 0]) ∧ Chg (Mine H d) W w'))
  clear ht
  go_enter Tryz.func9, Tryz.ntmps9
  go_wp2_with fail
  refine HN.out.mono ?_
  rintro e w1 ⟨H, d, rfl, hI, hM, hb1⟩
  have HI := Lib.hid hI
  have HM := Lib.hid hM
  have HB1 := Lib.hid hb1
  clear hI hM hb1
  go_wp2_with fail
  refine (HM1.out _ _ _ HI.out (HT.out.later HB1.out)).mono ?_
  rintro e w2 ⟨rfl, d2, hI2, hC2, hR2⟩
  have HI2 := Lib.hid hI2
  have HC2 := Lib.hid hC2
  have HR2 := Lib.hid hR2
  have HT2 := Lib.hid (HI.out.tabs hC2 (HT.out.later HB1.out))
  clear hI2 hC2 hR2
  go_wp2_with fail
  refine (HM2.out _ _ _ HI2.out HT2.out).mono ?_
  rintro e w3 ⟨rfl, hC3⟩
  have HC3 := Lib.hid hC3
  clear hC3
  go_wp2
  go_ret
  have s1 := HB1.out.size
  have s2 := HC2.out.size
  refine ⟨rfl, HB1.out.trans ((HC2.out.below HM.out s1).trans (HC3.out.below (fun k hk => (HR2.out k hk).elim (HM.out k) (fun e => by omega)) (by omega)))⟩
end Go.Proofs.YtcoolapancdioaaGreatDoor.Hp
