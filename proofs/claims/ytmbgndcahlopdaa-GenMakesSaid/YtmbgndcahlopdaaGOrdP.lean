/- Plain lists of bits by a relation, and edges; over no program. -/
import Derived.Test.YtmbgndcahlopdaaGLat
import Derived.Test.YtmbgndcahlopdaaGBase
namespace Go.Proofs.Ytmbgndcahlopdaa
set_option maxRecDepth 100000
open Go.RowKit

namespace Ordr
variable {f : Nat → Nat → Bool} {n a b : Nat}
end Ordr

end Go.Proofs.Ytmbgndcahlopdaa
