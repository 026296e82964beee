/- The reference's Label. -/
import Derived.Test.YtjobifclmcdjcaaGreatDoorGNotG
import Derived.Test.YtjobifclmcdjcaaGreatDoorGFree
namespace Go.Proofs.YtjobifclmcdjcaaGreatDoor
set_option maxRecDepth 100000
open Go.RowKit Go.Shelf Go.Sort
attribute [local go_sem] Oper.semAt_some
section
variable {w W W' : World} {b pb rb : Nat} {lv : Array Value} {p q r : RP}
end
/-! Label. -/
end Go.Proofs.YtjobifclmcdjcaaGreatDoor

/- The reference's one (by gen_codc.py). -/
namespace Go.Proofs.YtjobifclmcdjcaaGreatDoor
set_option maxRecDepth 100000
open Go.RowKit Go.Shelf Go.Sort
attribute [local go_sem] Oper.semAt_some

end Go.Proofs.YtjobifclmcdjcaaGreatDoor
