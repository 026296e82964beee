/- Walks of Itoa at small numbers, numberText, instructionText. -/
import Derived.Shelf.Strconv.Itoa1
import Derived.Test.YtipbilmnknmhmaaGreatDoorGCodA
import Derived.Test.YtipbilmnknmhmaaGreatDoorGTabE
namespace Go.Proofs.YtipbilmnknmhmaaGreatDoor
set_option maxRecDepth 100000
open Go.RowKit Go.Shelf Go.Sort
attribute [local go_sem] Oper.semAt_some
end Go.Proofs.YtipbilmnknmhmaaGreatDoor
