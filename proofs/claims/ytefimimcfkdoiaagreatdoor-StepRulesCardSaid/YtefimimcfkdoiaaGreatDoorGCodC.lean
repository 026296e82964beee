/- The reference's Label. -/
import Derived.Test.YtefimimcfkdoiaaGreatDoorGNotG
import Derived.Test.YtefimimcfkdoiaaGreatDoorGFree
namespace Go.Proofs.YtefimimcfkdoiaaGreatDoor
set_option maxRecDepth 100000
open Go.RowKit Go.Shelf Go.Sort
attribute [local go_sem] Oper.semAt_some
section
variable {w W W' : World} {b pb rb : Nat} {lv : Array Value} {p q r : RP}
end
/-! Label. -/
end Go.Proofs.YtefimimcfkdoiaaGreatDoor

/- The reference's one (by gen_codc.py). -/
namespace Go.Proofs.YtefimimcfkdoiaaGreatDoor
set_option maxRecDepth 100000
open Go.RowKit Go.Shelf Go.Sort
attribute [local go_sem] Oper.semAt_some

end Go.Proofs.YtefimimcfkdoiaaGreatDoor
