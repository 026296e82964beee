/- Walks of package order's small functions. -/
import Derived.Deep.DeepFit
import Derived.LoopTactic
import Derived.Test.YtmbgndcahlopdaaGOrdP
import Derived.Test.YtmbgndcahlopdaaGOrd
import Derived.Test.YtmbgndcahlopdaaGPub
import Derived.Test.YtmbgndcahlopdaaGMapLit
namespace Go.Proofs.Ytmbgndcahlopdaa
set_option maxRecDepth 100000
open Go.RowKit Go.Shelf

/- The map of functions. -/
end Go.Proofs.Ytmbgndcahlopdaa
