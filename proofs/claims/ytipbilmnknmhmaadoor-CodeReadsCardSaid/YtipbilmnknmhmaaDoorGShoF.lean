/- Walks of takeTwo (by gen_sho.py). -/
import Derived.BigRegion
import Derived.Test.YtipbilmnknmhmaaDoorGShoB
namespace Go.Proofs.YtipbilmnknmhmaaDoor
set_option maxRecDepth 100000
open Go.RowKit Go.Shelf

end Go.Proofs.YtipbilmnknmhmaaDoor
