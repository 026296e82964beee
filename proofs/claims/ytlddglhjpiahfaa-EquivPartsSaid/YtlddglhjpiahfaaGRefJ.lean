/- The reference's tables: Op and mark. -/
import Derived.Test.YtlddglhjpiahfaaGRefC
import Derived.Test.YtlddglhjpiahfaaGShoA
namespace Go.Proofs.Ytlddglhjpiahfaa
set_option maxRecDepth 100000
open Go.RowKit Go.Shelf
attribute [local go_sem] Oper.semAt_some

end Go.Proofs.Ytlddglhjpiahfaa
