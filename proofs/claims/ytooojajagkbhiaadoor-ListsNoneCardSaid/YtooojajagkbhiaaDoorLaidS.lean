/-
  What the laid table of sizes gives, and the door.
-/
import Derived.Test.YtooojajagkbhiaaDoorLaw
import Derived.Test.YtooojajagkbhiaaDoorClassA
import Derived.Test.YtooojajagkbhiaaDoorCards
import Derived.Test.YtooojajagkbhiaaDoorTie
import Derived.LaidMore
import Derived.Stop.Joined
import Derived.Stop.LaidErr
import Derived.Lib.LaidTab
namespace Go.Proofs.YtooojajagkbhiaaDoor
open Go.ChangeShapes Go.WideShapes Go.ChangeAt Go.RowKit

theorem gSiz : Tryd.prog.globalNamed "dustpan/class.sizes" = some 0 := by kernel_rfl
theorem tSiz : (Tryd.prog.globals[0]?).map (·.type) = some 115 := by kernel_rfl

theorem sizTab_of {W : World} {rest : List (String × DataW Unit)} (h : laidMet Tryd.prog (("dustpan/class.sizes", Rows.laid_dustpan_class_sizes) :: rest) W) : Class.SizTab W := by
  have ht := Lib.tabIs_of_head (k := .i64) (zs := [2, 4, 8, 16]) (rest := rest) gSiz tSiz Tryd.underlying115 Tryd.underlying3 (by kernel_rfl) (by kernel_rfl) h
  have hc : ∀ j, j < 4 → W.cell? ⟨0, j, none⟩ = some (.int .i64 (([2, 4, 8, 16] : List Int).getD j 0)) := fun j hj => ht.cell gSiz j hj
  exact ⟨hc 0 (by decide), hc 1 (by decide), hc 2 (by decide), hc 3 (by decide), World.block_lt_of_cell? W _ (hc 0 (by decide))⟩
end Go.Proofs.YtooojajagkbhiaaDoor
