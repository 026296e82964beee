/- The words in memory; things of a pile in memory. -/
import Derived.Deep.RegionWith
import Derived.StillTailTactics
import Derived.Test.YtgkkblcjblaimaaGreatDoorGLexP
import Derived.Test.YtgkkblcjblaimaaGreatDoorGRulB
namespace Go.Proofs.YtgkkblcjblaimaaGreatDoor
set_option maxRecDepth 100000
open Go.RowKit Go.Shelf

end Go.Proofs.YtgkkblcjblaimaaGreatDoor
