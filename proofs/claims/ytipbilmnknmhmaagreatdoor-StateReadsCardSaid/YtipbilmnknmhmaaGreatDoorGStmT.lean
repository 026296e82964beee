/- How atoms, slots and rows are written (by gen_stmt.py): walks of behind, atomText, slotText, rowText. -/
import Derived.Test.YtipbilmnknmhmaaGreatDoorGCodE
import Derived.Test.YtipbilmnknmhmaaGreatDoorGCodP
import Derived.Test.YtipbilmnknmhmaaGreatDoorGNotT
import Derived.Test.YtipbilmnknmhmaaGreatDoorGLexD
namespace Go.Proofs.YtipbilmnknmhmaaGreatDoor
set_option maxRecDepth 100000
open Go.RowKit Go.Shelf Go.Sort
attribute [local go_sem] Oper.semAt_some
/-! Plain. -/
section
variable {α : Type} (f : α → List UInt8)
end
section
variable {v : Value} {names : List ByteArray} {up : List Nat}
end
end Go.Proofs.YtipbilmnknmhmaaGreatDoor
