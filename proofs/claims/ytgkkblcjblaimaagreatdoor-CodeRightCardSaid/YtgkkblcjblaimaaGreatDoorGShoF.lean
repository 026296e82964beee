/- Walks of takeTwo (by gen_sho.py). -/
import Derived.BigRegion
import Derived.Test.YtgkkblcjblaimaaGreatDoorGShoB
namespace Go.Proofs.YtgkkblcjblaimaaGreatDoor
set_option maxRecDepth 100000
open Go.RowKit Go.Shelf

end Go.Proofs.YtgkkblcjblaimaaGreatDoor
