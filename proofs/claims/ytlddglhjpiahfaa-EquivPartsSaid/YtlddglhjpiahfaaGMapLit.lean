/- A map with strings for keys, made entry by entry, and asked; over no program. -/
import Derived.WideMake
import Derived.RangeFuncRecord
import Derived.Below
import Derived.Test.YtlddglhjpiahfaaGBase
namespace Go.Proofs.Ytlddglhjpiahfaa
set_option maxRecDepth 100000
open Go.RowKit
end Go.Proofs.Ytlddglhjpiahfaa
