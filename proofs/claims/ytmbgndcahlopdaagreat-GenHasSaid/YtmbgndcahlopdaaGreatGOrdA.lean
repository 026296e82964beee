/- Walks of package order's small functions. -/
import Derived.Deep.DeepFit
import Derived.LoopTactic
import Derived.Test.YtmbgndcahlopdaaGreatGOrdP
import Derived.Test.YtmbgndcahlopdaaGreatGOrd
import Derived.Test.YtmbgndcahlopdaaGreatGPub
import Derived.Test.YtmbgndcahlopdaaGreatGMapLit
namespace Go.Proofs.YtmbgndcahlopdaaGreat
set_option maxRecDepth 100000
open Go.RowKit Go.Shelf

/- The map of functions. -/
end Go.Proofs.YtmbgndcahlopdaaGreat
