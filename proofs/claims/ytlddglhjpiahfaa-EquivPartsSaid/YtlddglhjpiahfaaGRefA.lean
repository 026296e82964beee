/- The reference's reader of rules: what a state is; here, next, fail. -/
import Derived.Handy
import Derived.Test.YtlddglhjpiahfaaGRulA
namespace Go.Proofs.Ytlddglhjpiahfaa
set_option maxRecDepth 100000
open Go.RowKit Go.Shelf

end Go.Proofs.Ytlddglhjpiahfaa

/- The reference's put and must. -/
namespace Go.Proofs.Ytlddglhjpiahfaa
set_option maxRecDepth 100000
open Go.RowKit Go.Shelf

end Go.Proofs.Ytlddglhjpiahfaa
