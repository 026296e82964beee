import Derived.Shelf.Strings.BuilderK
import Derived.Shelf.Strings.Search3
import Derived.Test.YtefimimcfkdoiaaGreatDoorGLexA
import Derived.Test.YtefimimcfkdoiaaGreatDoorGTabE
set_option maxHeartbeats 64000000
set_option maxRecDepth 100000
namespace Go.Proofs.YtefimimcfkdoiaaGreatDoor
open Go.Shelf
end Go.Proofs.YtefimimcfkdoiaaGreatDoor
namespace Go.Proofs.YtefimimcfkdoiaaGreatDoor
open Go.RowKit Go.Shelf Go.Sort
attribute [local go_sem] Oper.semAt_some
namespace Tb
def trees (l:List PR):List Row:=l.mapIdx rowOf
def text (l:List PR):ByteArray × Nat:=if (check l).2=0 then (if l.all PR.flat=true then (Lx.pack (allTxt (trees l)),0) else (ByteArray.empty,5)) else (ByteArray.empty,(check l).2)
end Tb
end Go.Proofs.YtefimimcfkdoiaaGreatDoor
