/- The reference's tables: Op and mark. -/
import Derived.Test.YtjobifclmcdjcaaGreatDoorGRefC
import Derived.Test.YtjobifclmcdjcaaGreatDoorGShoA
namespace Go.Proofs.YtjobifclmcdjcaaGreatDoor
set_option maxRecDepth 100000
open Go.RowKit Go.Shelf
attribute [local go_sem] Oper.semAt_some

section
variable {A A0 A1 A2 : Option Addr} {l : List Lx.Tk} {c i n0 c0 n1 c1 n2 c2 : Nat}
end
end Go.Proofs.YtjobifclmcdjcaaGreatDoor
