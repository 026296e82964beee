/- Walks of alone, within, between (by gen_sho.py). -/
import Derived.Handy
import Derived.StillTailTactics
import Derived.BigRegion
import Derived.BigQuiet
import Derived.Test.YtmbgndcahlopdaaGreatGShoW
import Derived.Test.YtmbgndcahlopdaaGreatGRulA
namespace Go.Proofs.YtmbgndcahlopdaaGreat
set_option maxRecDepth 100000
open Go.RowKit Go.Shelf

end Go.Proofs.YtmbgndcahlopdaaGreat

/- Walks of alone, within, between (by gen_sho.py). -/
namespace Go.Proofs.YtmbgndcahlopdaaGreat
set_option maxRecDepth 100000
open Go.RowKit Go.Shelf

end Go.Proofs.YtmbgndcahlopdaaGreat

/- The two piles in memory. -/
namespace Go.Proofs.YtmbgndcahlopdaaGreat
set_option maxRecDepth 100000
open Go.RowKit Go.Shelf

end Go.Proofs.YtmbgndcahlopdaaGreat

/- Walks of put, takeTwo, ofTwo (by gen_sho.py). -/
namespace Go.Proofs.YtmbgndcahlopdaaGreat
set_option maxRecDepth 100000
open Go.RowKit Go.Shelf

end Go.Proofs.YtmbgndcahlopdaaGreat

/- Walks of takeTwo (by gen_sho.py). -/
namespace Go.Proofs.YtmbgndcahlopdaaGreat
set_option maxRecDepth 100000
open Go.RowKit Go.Shelf

end Go.Proofs.YtmbgndcahlopdaaGreat

/- Walks of ofTwo (by gen_sho.py). -/
namespace Go.Proofs.YtmbgndcahlopdaaGreat
set_option maxRecDepth 100000
open Go.RowKit Go.Shelf


end Go.Proofs.YtmbgndcahlopdaaGreat

/- The walk of take: one number of a rule. -/
namespace Go.Proofs.YtmbgndcahlopdaaGreat
set_option maxRecDepth 100000
open Go.RowKit Go.Shelf

end Go.Proofs.YtmbgndcahlopdaaGreat

/- Walks of take (any number), whole, sorts, and Text. -/
namespace Go.Proofs.YtmbgndcahlopdaaGreat
set_option maxRecDepth 100000
open Go.RowKit Go.Shelf

end Go.Proofs.YtmbgndcahlopdaaGreat

/- The instructions' words and labels in memory; Name, Arity; a row's parts. -/
namespace Go.Proofs.YtmbgndcahlopdaaGreat
set_option maxRecDepth 100000
open Go.RowKit Go.Shelf
attribute [local go_sem] Oper.semAt_some

end Go.Proofs.YtmbgndcahlopdaaGreat

/- Walks of checkLabels, checkRow, Check. -/
namespace Go.Proofs.YtmbgndcahlopdaaGreat
set_option maxRecDepth 100000
open Go.RowKit Go.Shelf
attribute [local go_sem] Oper.semAt_some

end Go.Proofs.YtmbgndcahlopdaaGreat

/- Walks of checkRow and Check. -/
namespace Go.Proofs.YtmbgndcahlopdaaGreat
set_option maxRecDepth 100000
open Go.RowKit Go.Shelf
attribute [local go_sem] Oper.semAt_some

end Go.Proofs.YtmbgndcahlopdaaGreat

/- The walk of Check; tables in memory. -/
namespace Go.Proofs.YtmbgndcahlopdaaGreat
set_option maxRecDepth 100000
open Go.RowKit Go.Shelf
attribute [local go_sem] Oper.semAt_some

end Go.Proofs.YtmbgndcahlopdaaGreat

/- The walks of the reference's Word, Arity, has, Row (by gen_tabw.py). -/
namespace Go.Proofs.YtmbgndcahlopdaaGreat
set_option maxRecDepth 100000
open Go.RowKit Go.Shelf
attribute [local go_sem] Oper.semAt_some

end Go.Proofs.YtmbgndcahlopdaaGreat
