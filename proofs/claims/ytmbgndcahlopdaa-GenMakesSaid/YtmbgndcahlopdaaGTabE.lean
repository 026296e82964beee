/- The walk of rowText. -/
import Derived.Lib.QuietBelow
import Derived.Test.YtmbgndcahlopdaaGShoA
import Derived.Test.YtmbgndcahlopdaaGLexD
import Derived.Test.YtmbgndcahlopdaaGRulA
namespace Go.Proofs.Ytmbgndcahlopdaa
set_option maxRecDepth 100000
open Go.RowKit Go.Shelf Go.Sort
attribute [local go_sem] Oper.semAt_some

end Go.Proofs.Ytmbgndcahlopdaa

/- The reader of a table in memory; walks of next, mark. -/
namespace Go.Proofs.Ytmbgndcahlopdaa
set_option maxRecDepth 100000
open Go.RowKit Go.Shelf
attribute [local go_sem] Oper.semAt_some

end Go.Proofs.Ytmbgndcahlopdaa
