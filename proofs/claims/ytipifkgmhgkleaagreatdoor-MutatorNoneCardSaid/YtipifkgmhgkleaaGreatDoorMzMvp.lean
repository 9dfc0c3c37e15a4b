/-
  The law MutatorNone answers true, for every config and two numbers.
-/
import Derived.Test.YtipifkgmhgkleaaGreatDoorMzMvot
import Derived.Test.YtipifkgmhgkleaaGreatDoorMzMvof
namespace Go.Proofs.YtipifkgmhgkleaaGreatDoor.Mv
open Go.RowKit
open Blk (Cfg)
open Go.Proofs.YtipifkgmhgkleaaGreatDoor.Addr (Tabs)
theorem none_walk (c : Cfg) (id more : Int) (w : World) (ht : Tabs w) (hf : Opr.FormTab w) (hm0 : 0 ≤ more) (hm1 : more ≤ 255) :
    Calls Tryz.prog 3 #[(.agg #[.int .i64 c.b, .int .i64 c.wd, .int .i64 c.m, .int .i64 c.r, .int .i64 c.ce, .int .i64 c.lg, .int .i64 c.st]), .int .i64 id, .int .u8 more] w fun e w' => e = .returned (.bool true) ∧ Below w.heap.size w w' := by
  cases hR : rightB c.b c.wd c.m c.r c.ce c.lg c.st with
  | true => exact none_true c id more w ht hf hm0 hm1 hR
  | false => exact none_false c id more w ht hf hm0 hm1 hR
end Go.Proofs.YtipifkgmhgkleaaGreatDoor.Mv
