/- How numbers and labels are written (package notation): walks of Number, Label. -/
import Derived.Test.YtipbilmnknmhmaaGreatDoorGCodT
import Derived.Test.YtipbilmnknmhmaaGreatDoorGNotG
import Derived.Test.YtipbilmnknmhmaaGreatDoorGLexS
import Derived.Test.YtipbilmnknmhmaaGreatDoorGOrd
namespace Go.Proofs.YtipbilmnknmhmaaGreatDoor
set_option maxRecDepth 100000
open Go.RowKit Go.Shelf Go.Sort
attribute [local go_sem] Oper.semAt_some
end Go.Proofs.YtipbilmnknmhmaaGreatDoor

/- Walk of instructionText. -/
namespace Go.Proofs.YtipbilmnknmhmaaGreatDoor
set_option maxRecDepth 100000
open Go.RowKit Go.Shelf Go.Sort
attribute [local go_sem] Oper.semAt_some
end Go.Proofs.YtipbilmnknmhmaaGreatDoor

/- Walk of Text. -/
namespace Go.Proofs.YtipbilmnknmhmaaGreatDoor
set_option maxRecDepth 100000
open Go.RowKit Go.Shelf Go.Sort
attribute [local go_sem] Oper.semAt_some
end Go.Proofs.YtipbilmnknmhmaaGreatDoor
