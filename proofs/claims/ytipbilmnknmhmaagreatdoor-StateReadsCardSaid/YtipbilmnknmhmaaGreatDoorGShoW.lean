/- The words in memory; things of a pile in memory. -/
import Derived.Deep.RegionWith
import Derived.StillTailTactics
import Derived.Test.YtipbilmnknmhmaaGreatDoorGLexP
import Derived.Test.YtipbilmnknmhmaaGreatDoorGRulA
namespace Go.Proofs.YtipbilmnknmhmaaGreatDoor
set_option maxRecDepth 100000
open Go.RowKit Go.Shelf

end Go.Proofs.YtipbilmnknmhmaaGreatDoor
