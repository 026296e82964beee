/- The reference's Label. -/
import Derived.Test.YtmbgndcahlopdaaGNotG
import Derived.Test.YtmbgndcahlopdaaGFree
namespace Go.Proofs.Ytmbgndcahlopdaa
set_option maxRecDepth 100000
open Go.RowKit Go.Shelf Go.Sort
attribute [local go_sem] Oper.semAt_some
/-! Label. -/
end Go.Proofs.Ytmbgndcahlopdaa

/- The reference's one (by gen_codc.py). -/
namespace Go.Proofs.Ytmbgndcahlopdaa
set_option maxRecDepth 100000
open Go.RowKit Go.Shelf Go.Sort
attribute [local go_sem] Oper.semAt_some

end Go.Proofs.Ytmbgndcahlopdaa
