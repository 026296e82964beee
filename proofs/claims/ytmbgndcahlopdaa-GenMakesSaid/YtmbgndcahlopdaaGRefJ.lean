/- The reference's tables: Op and mark. -/
import Derived.Test.YtmbgndcahlopdaaGRefC
import Derived.Test.YtmbgndcahlopdaaGShoA
namespace Go.Proofs.Ytmbgndcahlopdaa
set_option maxRecDepth 100000
open Go.RowKit Go.Shelf
attribute [local go_sem] Oper.semAt_some

end Go.Proofs.Ytmbgndcahlopdaa
