/- The reference's reader of rules: what a state is; here, next, fail. -/
import Derived.Handy
import Derived.Test.YtipbilmnknmhmaaDoorGRulD
import Derived.Test.YtipbilmnknmhmaaDoorGRulB
namespace Go.Proofs.YtipbilmnknmhmaaDoor
set_option maxRecDepth 100000
open Go.RowKit Go.Shelf

section
variable {w W W' : World}
end
section
variable {A A2 : Option Addr} {l : List Lx.Tk} {c p m c2 : Nat} {d : Int}
end
end Go.Proofs.YtipbilmnknmhmaaDoor
