/- Walks of package order's named and Make. -/
import Derived.Test.YtlddglhjpiahfaaGOrdA
import Derived.Test.YtlddglhjpiahfaaGFew
namespace Go.Proofs.Ytlddglhjpiahfaa
set_option maxRecDepth 100000
open Go.RowKit Go.Shelf

end Go.Proofs.Ytlddglhjpiahfaa
