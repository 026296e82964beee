/- Walks of alone, within, between (by gen_sho.py). -/
import Derived.Handy
import Derived.StillTailTactics
import Derived.BigRegion
import Derived.BigQuiet
import Derived.Test.YtmbgndcahlopdaaGShoW
import Derived.Test.YtmbgndcahlopdaaGRulA
namespace Go.Proofs.Ytmbgndcahlopdaa
set_option maxRecDepth 100000
open Go.RowKit Go.Shelf

end Go.Proofs.Ytmbgndcahlopdaa

/- Walks of alone, within, between (by gen_sho.py). -/
namespace Go.Proofs.Ytmbgndcahlopdaa
set_option maxRecDepth 100000
open Go.RowKit Go.Shelf

end Go.Proofs.Ytmbgndcahlopdaa

/- The two piles in memory. -/
namespace Go.Proofs.Ytmbgndcahlopdaa
set_option maxRecDepth 100000
open Go.RowKit Go.Shelf

end Go.Proofs.Ytmbgndcahlopdaa

/- Walks of put, takeTwo, ofTwo (by gen_sho.py). -/
namespace Go.Proofs.Ytmbgndcahlopdaa
set_option maxRecDepth 100000
open Go.RowKit Go.Shelf

end Go.Proofs.Ytmbgndcahlopdaa

/- Walks of takeTwo (by gen_sho.py). -/
namespace Go.Proofs.Ytmbgndcahlopdaa
set_option maxRecDepth 100000
open Go.RowKit Go.Shelf

end Go.Proofs.Ytmbgndcahlopdaa

/- Walks of ofTwo (by gen_sho.py). -/
namespace Go.Proofs.Ytmbgndcahlopdaa
set_option maxRecDepth 100000
open Go.RowKit Go.Shelf


end Go.Proofs.Ytmbgndcahlopdaa

/- The walk of take: one number of a rule. -/
namespace Go.Proofs.Ytmbgndcahlopdaa
set_option maxRecDepth 100000
open Go.RowKit Go.Shelf

end Go.Proofs.Ytmbgndcahlopdaa

/- Walks of take (any number), whole, sorts, and Text. -/
namespace Go.Proofs.Ytmbgndcahlopdaa
set_option maxRecDepth 100000
open Go.RowKit Go.Shelf

end Go.Proofs.Ytmbgndcahlopdaa

/- The instructions' words and labels in memory; Name, Arity; a row's parts. -/
namespace Go.Proofs.Ytmbgndcahlopdaa
set_option maxRecDepth 100000
open Go.RowKit Go.Shelf
attribute [local go_sem] Oper.semAt_some

end Go.Proofs.Ytmbgndcahlopdaa

/- Walks of checkLabels, checkRow, Check. -/
namespace Go.Proofs.Ytmbgndcahlopdaa
set_option maxRecDepth 100000
open Go.RowKit Go.Shelf
attribute [local go_sem] Oper.semAt_some

end Go.Proofs.Ytmbgndcahlopdaa

/- Walks of checkRow and Check. -/
namespace Go.Proofs.Ytmbgndcahlopdaa
set_option maxRecDepth 100000
open Go.RowKit Go.Shelf
attribute [local go_sem] Oper.semAt_some

end Go.Proofs.Ytmbgndcahlopdaa

/- The walk of Check; tables in memory. -/
namespace Go.Proofs.Ytmbgndcahlopdaa
set_option maxRecDepth 100000
open Go.RowKit Go.Shelf
attribute [local go_sem] Oper.semAt_some

end Go.Proofs.Ytmbgndcahlopdaa

/- The walks of the reference's Word, Arity, has, Row (by gen_tabw.py). -/
namespace Go.Proofs.Ytmbgndcahlopdaa
set_option maxRecDepth 100000
open Go.RowKit Go.Shelf
attribute [local go_sem] Oper.semAt_some

end Go.Proofs.Ytmbgndcahlopdaa
