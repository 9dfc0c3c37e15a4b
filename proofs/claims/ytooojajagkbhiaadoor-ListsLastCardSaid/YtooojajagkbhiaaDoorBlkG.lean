/-
  The law's list of a table's slots: what is told by ranging over it, so many at most.
-/
import Derived.Test.YtooojajagkbhiaaDoorBlkF
namespace Go.Proofs.YtooojajagkbhiaaDoor.Blk
open Go.RowKit Go.Shelf
open Class (isB isB_true isB_false sizI perI SizTab)
open Go.Proofs.YtooojajagkbhiaaDoor.Addr (Tabs)
attribute [local go_sem] Oper.semAt_some

theorem eql_func_nil (f : Fn) (xs ys : Array Value) (w : World) : (binOp .eql 84 (.func f xs ys) .nilFunc).run Tryd.prog w = .ok (.bool false) w := by
  have hu := Tryd.underlying84
  have h : ∀ d : Nat, (Op.equalIn (d + 1) 84 (.func f xs ys) .nilFunc).run Tryd.prog w = .ok false w := fun d => by
    simp [Op.equalIn, run_underlying hu]
  simp only [binOp]
  simp [Op.equal, Op.maxDepth, h 9999]

end Go.Proofs.YtooojajagkbhiaaDoor.Blk
