/- Walks of package order's named and Make. -/
import Derived.Test.YtmbgndcahlopdaaGreatGOrdA
import Derived.Test.YtmbgndcahlopdaaGreatGFew
namespace Go.Proofs.YtmbgndcahlopdaaGreat
set_option maxRecDepth 100000
open Go.RowKit Go.Shelf

end Go.Proofs.YtmbgndcahlopdaaGreat
