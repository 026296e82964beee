/- The reference's Label. -/
import Derived.Test.YtlddglhjpiahfaaGNotG
import Derived.Test.YtlddglhjpiahfaaGFree
namespace Go.Proofs.Ytlddglhjpiahfaa
set_option maxRecDepth 100000
open Go.RowKit Go.Shelf Go.Sort
attribute [local go_sem] Oper.semAt_some
/-! Label. -/
end Go.Proofs.Ytlddglhjpiahfaa

/- The reference's one (by gen_codc.py). -/
namespace Go.Proofs.Ytlddglhjpiahfaa
set_option maxRecDepth 100000
open Go.RowKit Go.Shelf Go.Sort
attribute [local go_sem] Oper.semAt_some

end Go.Proofs.Ytlddglhjpiahfaa
