/- Walks of package order's named and Make. -/
import Derived.Test.YtmbgndcahlopdaaGOrdA
import Derived.Test.YtmbgndcahlopdaaGFew
namespace Go.Proofs.Ytmbgndcahlopdaa
set_option maxRecDepth 100000
open Go.RowKit Go.Shelf

end Go.Proofs.Ytmbgndcahlopdaa
