/- The walk of the laws' few: a table, cut. -/
import Derived.Deep.RegionLaw
import Derived.Maps.AppendAt
import Derived.Test.YtmbgndcahlopdaaGreatGShoA
import Derived.Test.YtmbgndcahlopdaaGreatGFree
namespace Go.Proofs.YtmbgndcahlopdaaGreat
set_option maxRecDepth 100000
open Go.RowKit Go.Shelf
attribute [local go_sem] Oper.semAt_some

end Go.Proofs.YtmbgndcahlopdaaGreat
