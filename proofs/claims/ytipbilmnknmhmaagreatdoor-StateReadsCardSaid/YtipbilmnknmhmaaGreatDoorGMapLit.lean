/- A map with strings for keys, made entry by entry, and asked; over no program. -/
import Derived.WideMake
import Derived.RangeFuncRecord
import Derived.Below
import Derived.Test.YtipbilmnknmhmaaGreatDoorGBase
namespace Go.Proofs.YtipbilmnknmhmaaGreatDoor
set_option maxRecDepth 100000
open Go.RowKit
section
variable {P : Program} (w : World)
end
end Go.Proofs.YtipbilmnknmhmaaGreatDoor
