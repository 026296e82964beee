/- Walks of package order's small functions. -/
import Derived.Deep.DeepFit
import Derived.LoopTactic
import Derived.Test.YtlddglhjpiahfaaGOrdP
import Derived.Test.YtlddglhjpiahfaaGOrd
import Derived.Test.YtlddglhjpiahfaaGPub
import Derived.Test.YtlddglhjpiahfaaGMapLit
namespace Go.Proofs.Ytlddglhjpiahfaa
set_option maxRecDepth 100000
open Go.RowKit Go.Shelf

/- The map of functions. -/
end Go.Proofs.Ytlddglhjpiahfaa
