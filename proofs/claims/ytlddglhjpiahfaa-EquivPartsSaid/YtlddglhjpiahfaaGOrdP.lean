/- Plain lists of bits by a relation, and edges; over no program. -/
import Derived.Test.YtlddglhjpiahfaaGLat
import Derived.Test.YtlddglhjpiahfaaGBase
namespace Go.Proofs.Ytlddglhjpiahfaa
set_option maxRecDepth 100000
open Go.RowKit

namespace Ordr
variable {f : Nat → Nat → Bool} {n a b : Nat}
end Ordr

end Go.Proofs.Ytlddglhjpiahfaa

/- What edges make, as plain data; over no program. -/
namespace Go.Proofs.Ytlddglhjpiahfaa
set_option maxRecDepth 100000
open Go.RowKit

namespace Ordr
variable {n : Nat} {ps : List (Nat × Nat)} {up : List Nat}
/-- Row a takes up row b. -/
def into (up : List Nat) (p : Nat × Nat) : List Nat := up.set p.1 (up.getD p.1 0 ||| up.getD p.2 0)
end Ordr
end Go.Proofs.Ytlddglhjpiahfaa
