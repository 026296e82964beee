/- The reference's tables: Op and mark. -/
import Derived.Test.YtmbgndcahlopdaaGreatGRefC
import Derived.Test.YtmbgndcahlopdaaGreatGShoA
namespace Go.Proofs.YtmbgndcahlopdaaGreat
set_option maxRecDepth 100000
open Go.RowKit Go.Shelf
attribute [local go_sem] Oper.semAt_some

end Go.Proofs.YtmbgndcahlopdaaGreat
