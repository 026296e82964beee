/- The words in memory; things of a pile in memory. -/
import Derived.Deep.RegionWith
import Derived.StillTailTactics
import Derived.Test.YtipbilmnknmhmaaDoorGLexP
import Derived.Test.YtipbilmnknmhmaaDoorGRulB
namespace Go.Proofs.YtipbilmnknmhmaaDoor
set_option maxRecDepth 100000
open Go.RowKit Go.Shelf

end Go.Proofs.YtipbilmnknmhmaaDoor
