import Derived.Deep.DeepFit
import Derived.LoopTactic
import Derived.RegionTactic
import Derived.Deep.QuietTactic
import Derived.BigQuiet
import Derived.Lib.SlicesS
import Derived.Test.YtjobifclmcdjcaaGreatDoorQZLat
import Derived.Test.YtjobifclmcdjcaaGreatDoorQZBase
import Derived.Test.YtjobifclmcdjcaaGreatDoorQZOrd
import Derived.Test.YtjobifclmcdjcaaGreatDoorQZPub
import Derived.Test.YtjobifclmcdjcaaGreatDoorQZMapLit
import Derived.Test.YtjobifclmcdjcaaGreatDoorQZFew
set_option maxHeartbeats 64000000
set_option maxRecDepth 100000
namespace Go.Proofs.YtjobifclmcdjcaaGreatDoor
open Go.RowKit
namespace Ordr
variable {f:Nat→Nat→Bool} {n a b:Nat}
end Ordr
namespace Ordr
variable {n:Nat} {ps:List (Nat×Nat)} {up:List Nat}
def into(up:List Nat)(p:Nat×Nat):List Nat:=up.set p.1 (up.getD p.1 0 ||| up.getD p.2 0)
end Ordr
end Go.Proofs.YtjobifclmcdjcaaGreatDoor
namespace Go.Proofs.YtjobifclmcdjcaaGreatDoor
open Go.RowKit Go.Shelf
end Go.Proofs.YtjobifclmcdjcaaGreatDoor
