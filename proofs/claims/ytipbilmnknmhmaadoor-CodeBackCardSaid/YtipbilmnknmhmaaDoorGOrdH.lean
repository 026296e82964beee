/- Walks of made, checkEdges, Clone and Of. -/
import Derived.Deep.LoopGhost
import Derived.Test.YtipbilmnknmhmaaDoorGOrdC
import Derived.Test.YtipbilmnknmhmaaDoorGOrdP
namespace Go.Proofs.YtipbilmnknmhmaaDoor
set_option maxRecDepth 100000
open Go.RowKit Go.Shelf

theorem getD_some {l : List Nat} {a : Nat} (h : a < l.length) : l[a]? = some (l.getD a 0) := by
  rw [List.getD_eq_getElem?_getD, List.getElem?_eq_getElem h]; rfl

end Go.Proofs.YtipbilmnknmhmaaDoor
