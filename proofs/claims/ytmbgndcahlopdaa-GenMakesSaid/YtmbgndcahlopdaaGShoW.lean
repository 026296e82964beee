/- The words in memory; things of a pile in memory. -/
import Derived.Deep.RegionWith
import Derived.StillTailTactics
import Derived.Test.YtmbgndcahlopdaaGLexP
import Derived.Test.YtmbgndcahlopdaaGRulA
namespace Go.Proofs.Ytmbgndcahlopdaa
set_option maxRecDepth 100000
open Go.RowKit Go.Shelf

end Go.Proofs.Ytmbgndcahlopdaa
