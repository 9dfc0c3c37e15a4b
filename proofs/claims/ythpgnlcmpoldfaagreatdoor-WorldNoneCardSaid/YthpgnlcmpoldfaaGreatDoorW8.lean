/-
  The law WorldNone answers true, for every config and two numbers.
-/
import Derived.Test.YthpgnlcmpoldfaaGreatDoorW6
import Derived.Test.YthpgnlcmpoldfaaGreatDoorW7
namespace Go.Proofs.YthpgnlcmpoldfaaGreatDoor.Wo
open Go.RowKit
open Blk (Cfg little little_any little_right)
open Go.Proofs.YthpgnlcmpoldfaaGreatDoor.Addr (Tabs)
open Mu (Sy Sd ShIs sd0 lt_of_cell CoIs OpsR owns_cellN O4 cellsO)
open Go.Proofs.YthpgnlcmpoldfaaGreatDoor.Row (Chg rowB rowB_none info_parts)
theorem none_walk (c : Cfg) (k more : Int) (w : World) (ht : LimTab w) (hm0 : 0 ≤ more) (hm1 : more ≤ 255) :
    Calls Tryz.prog 6 #[(.agg #[.int .i64 c.b, .int .i64 c.wd, .int .i64 c.m, .int .i64 c.r, .int .i64 c.ce, .int .i64 c.lg, .int .i64 c.st]), .int .i64 k, .int .u8 more] w fun e w' => e = .returned (.bool true) ∧ Below w.heap.size w w' := by
  cases hR : rightB c.b c.wd c.m c.r c.ce c.lg c.st with
  | true => exact none_true c k more w ht hm0 hm1 hR
  | false => exact none_false c k more w ht hm0 hm1 hR
end Go.Proofs.YthpgnlcmpoldfaaGreatDoor.Wo
