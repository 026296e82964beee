/- The walk of the laws' few: a table, cut. -/
import Derived.Deep.RegionLaw
import Derived.Maps.AppendAt
import Derived.Test.YtlddglhjpiahfaaGShoA
import Derived.Test.YtlddglhjpiahfaaGFree
namespace Go.Proofs.Ytlddglhjpiahfaa
set_option maxRecDepth 100000
open Go.RowKit Go.Shelf
attribute [local go_sem] Oper.semAt_some

end Go.Proofs.Ytlddglhjpiahfaa
