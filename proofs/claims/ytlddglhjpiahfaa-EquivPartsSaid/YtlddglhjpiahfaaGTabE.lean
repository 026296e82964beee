/- The walk of rowText. -/
import Derived.Lib.QuietBelow
import Derived.Test.YtlddglhjpiahfaaGShoA
import Derived.Test.YtlddglhjpiahfaaGLexD
import Derived.Test.YtlddglhjpiahfaaGRulA
namespace Go.Proofs.Ytlddglhjpiahfaa
set_option maxRecDepth 100000
open Go.RowKit Go.Shelf Go.Sort
attribute [local go_sem] Oper.semAt_some

end Go.Proofs.Ytlddglhjpiahfaa

/- The reader of a table in memory; walks of next, mark. -/
namespace Go.Proofs.Ytlddglhjpiahfaa
set_option maxRecDepth 100000
open Go.RowKit Go.Shelf
attribute [local go_sem] Oper.semAt_some

end Go.Proofs.Ytlddglhjpiahfaa
