/- The walk of rowText. -/
import Derived.Lib.QuietBelow
import Derived.Test.YtmbgndcahlopdaaGreatGShoA
import Derived.Test.YtmbgndcahlopdaaGreatGLexD
import Derived.Test.YtmbgndcahlopdaaGreatGRulA
namespace Go.Proofs.YtmbgndcahlopdaaGreat
set_option maxRecDepth 100000
open Go.RowKit Go.Shelf Go.Sort
attribute [local go_sem] Oper.semAt_some

end Go.Proofs.YtmbgndcahlopdaaGreat

/- The reader of a table in memory; walks of next, mark. -/
namespace Go.Proofs.YtmbgndcahlopdaaGreat
set_option maxRecDepth 100000
open Go.RowKit Go.Shelf
attribute [local go_sem] Oper.semAt_some

end Go.Proofs.YtmbgndcahlopdaaGreat
