/- The words in memory; things of a pile in memory. -/
import Derived.Deep.RegionWith
import Derived.StillTailTactics
import Derived.Test.YtmbgndcahlopdaaGreatGLexP
import Derived.Test.YtmbgndcahlopdaaGreatGRulA
namespace Go.Proofs.YtmbgndcahlopdaaGreat
set_option maxRecDepth 100000
open Go.RowKit Go.Shelf

end Go.Proofs.YtmbgndcahlopdaaGreat
