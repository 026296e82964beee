/- The reference's reader of rules: what a state is; here, next, fail. -/
import Derived.Handy
import Derived.Test.YtgkkblcjblaimaaGreatDoorGRulD
import Derived.Test.YtgkkblcjblaimaaGreatDoorGRulB
namespace Go.Proofs.YtgkkblcjblaimaaGreatDoor
set_option maxRecDepth 100000
open Go.RowKit Go.Shelf

section
variable {w W W' : World}
end
section
variable {A A2 : Option Addr} {l : List Lx.Tk} {c p m c2 : Nat} {d : Int}
end
end Go.Proofs.YtgkkblcjblaimaaGreatDoor
