/-
  config.Words, of right configs and of others, wherever the table of limits lies as it was laid.
-/
import Derived.Test.YtcdnbheoelnghaaDoorConfigB
import Derived.Test.YtcdnbheoelnghaaDoorCfgMath
namespace Go.Proofs.YtcdnbheoelnghaaDoor
open Go.RowKit

/-- A world later than one with the table has the table. -/
theorem LimTab.later {w w' : World} (h : LimTab w) (hb : Below w.heap.size w w') : LimTab w' := h.below hb h.blk

end Go.Proofs.YtcdnbheoelnghaaDoor
