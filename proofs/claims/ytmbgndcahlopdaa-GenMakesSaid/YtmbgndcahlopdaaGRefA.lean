/- The reference's reader of rules: what a state is; here, next, fail. -/
import Derived.Handy
import Derived.Test.YtmbgndcahlopdaaGRulA
namespace Go.Proofs.Ytmbgndcahlopdaa
set_option maxRecDepth 100000
open Go.RowKit Go.Shelf

end Go.Proofs.Ytmbgndcahlopdaa

/- The reference's put and must. -/
namespace Go.Proofs.Ytmbgndcahlopdaa
set_option maxRecDepth 100000
open Go.RowKit Go.Shelf

end Go.Proofs.Ytmbgndcahlopdaa
