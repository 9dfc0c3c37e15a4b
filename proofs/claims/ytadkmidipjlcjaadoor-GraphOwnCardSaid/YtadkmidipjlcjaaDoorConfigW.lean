/-
  config.Words, of right configs and of others, wherever the table of limits lies as it was laid.
-/
import Derived.Test.YtadkmidipjlcjaaDoorConfigB
import Derived.Test.YtadkmidipjlcjaaDoorCfgMath
namespace Go.Proofs.YtadkmidipjlcjaaDoor
open Go.RowKit

/-- A world later than one with the table has the table. -/
theorem LimTab.later {w w' : World} (h : LimTab w) (hb : Below w.heap.size w w') : LimTab w' := h.below hb h.blk

end Go.Proofs.YtadkmidipjlcjaaDoor
