import Derived.Deep.DeepFit
import Derived.LoopTactic
import Derived.RegionTactic
import Derived.Deep.QuietTactic
import Derived.BigQuiet
import Derived.Lib.SlicesS
import Derived.Test.YtefimimcfkdoiaaGreatDoorGLat
import Derived.Test.YtefimimcfkdoiaaGreatDoorGBase
import Derived.Test.YtefimimcfkdoiaaGreatDoorGOrd
import Derived.Test.YtefimimcfkdoiaaGreatDoorGPub
import Derived.Test.YtefimimcfkdoiaaGreatDoorGMapLit
import Derived.Test.YtefimimcfkdoiaaGreatDoorGFew
set_option maxHeartbeats 64000000
set_option maxRecDepth 100000
namespace Go.Proofs.YtefimimcfkdoiaaGreatDoor
open Go.RowKit
namespace Ordr
variable {f:Nat→Nat→Bool} {n a b:Nat}
end Ordr
namespace Ordr
variable {n:Nat} {ps:List (Nat × Nat)} {up:List Nat}
def into (up:List Nat) (p:Nat × Nat):List Nat:=up.set p.1 (up.getD p.1 0 ||| up.getD p.2 0)
end Ordr
end Go.Proofs.YtefimimcfkdoiaaGreatDoor
namespace Go.Proofs.YtefimimcfkdoiaaGreatDoor
open Go.RowKit Go.Shelf
def lettersB:ByteArray:=⟨#[97,98,99,100,101,102,103,104]⟩
def letter (i:Nat):ByteArray:=lettersB.extract i (i+1)
def idxN (l:List ByteArray) (s:ByteArray):Option Nat:=l.findIdx? fun x=>decide (x=s)
namespace Ordr
def bt (up:List Nat) (a b c:Nat):Bool:=decide (c≠a) && decide (c≠b) && Lat.fl up a c && Lat.fl up c b
end Ordr
end Go.Proofs.YtefimimcfkdoiaaGreatDoor
