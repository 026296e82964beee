/- The reference's Label. -/
import Derived.Test.YtmbgndcahlopdaaGreatGNotG
import Derived.Test.YtmbgndcahlopdaaGreatGFree
namespace Go.Proofs.YtmbgndcahlopdaaGreat
set_option maxRecDepth 100000
open Go.RowKit Go.Shelf Go.Sort
attribute [local go_sem] Oper.semAt_some
/-! Label. -/
end Go.Proofs.YtmbgndcahlopdaaGreat

/- The reference's one (by gen_codc.py). -/
namespace Go.Proofs.YtmbgndcahlopdaaGreat
set_option maxRecDepth 100000
open Go.RowKit Go.Shelf Go.Sort
attribute [local go_sem] Oper.semAt_some

end Go.Proofs.YtmbgndcahlopdaaGreat
