/- The walk of Text. -/
import Derived.Test.YtjobifclmcdjcaaGreatDoorGTabE
import Derived.Test.YtjobifclmcdjcaaGreatDoorGTabS
namespace Go.Proofs.YtjobifclmcdjcaaGreatDoor
set_option maxRecDepth 100000
open Go.RowKit Go.Shelf Go.Sort
attribute [local go_sem] Oper.semAt_some

namespace Tb
def trees (l : List PR) : List Row := l.mapIdx rowOf
def text (l : List PR) : ByteArray × Nat := if (check l).2 = 0 then (if l.all PR.flat = true then (Lx.pack (allTxt (trees l)), 0) else (ByteArray.empty, 5)) else (ByteArray.empty, (check l).2)
end Tb
end Go.Proofs.YtjobifclmcdjcaaGreatDoor
