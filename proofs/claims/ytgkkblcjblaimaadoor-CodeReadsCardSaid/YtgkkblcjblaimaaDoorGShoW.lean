/- The words in memory; things of a pile in memory. -/
import Derived.Deep.RegionWith
import Derived.StillTailTactics
import Derived.Test.YtgkkblcjblaimaaDoorGLexP
import Derived.Test.YtgkkblcjblaimaaDoorGRulB
namespace Go.Proofs.YtgkkblcjblaimaaDoor
set_option maxRecDepth 100000
open Go.RowKit Go.Shelf

end Go.Proofs.YtgkkblcjblaimaaDoor
