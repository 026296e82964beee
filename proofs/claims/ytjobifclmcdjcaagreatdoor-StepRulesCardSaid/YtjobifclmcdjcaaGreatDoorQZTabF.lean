import Derived.Shelf.Strings.BuilderK
import Derived.Shelf.Strings.Search3
import Derived.Test.YtjobifclmcdjcaaGreatDoorQZLexA
import Derived.Test.YtjobifclmcdjcaaGreatDoorQZTabE
set_option maxHeartbeats 64000000
set_option maxRecDepth 100000
namespace Go.Proofs.YtjobifclmcdjcaaGreatDoor
open Go.Shelf
end Go.Proofs.YtjobifclmcdjcaaGreatDoor
namespace Go.Proofs.YtjobifclmcdjcaaGreatDoor
open Go.RowKit Go.Shelf Go.Sort
attribute [local go_sem] Oper.semAt_some
end Go.Proofs.YtjobifclmcdjcaaGreatDoor
