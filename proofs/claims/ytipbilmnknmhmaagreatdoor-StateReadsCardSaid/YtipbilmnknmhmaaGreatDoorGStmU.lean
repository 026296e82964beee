/- Walk of state.Text (by gen_stmu.py). -/
import Derived.Test.YtipbilmnknmhmaaGreatDoorGStmT
import Derived.Test.YtipbilmnknmhmaaGreatDoorGStmF
import Derived.Test.YtipbilmnknmhmaaGreatDoorGFree
namespace Go.Proofs.YtipbilmnknmhmaaGreatDoor
set_option maxRecDepth 100000
open Go.RowKit Go.Shelf Go.Sort
attribute [local go_sem] Oper.semAt_some
end Go.Proofs.YtipbilmnknmhmaaGreatDoor
