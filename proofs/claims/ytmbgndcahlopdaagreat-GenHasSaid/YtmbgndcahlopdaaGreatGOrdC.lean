/- Walks of slices.Equal, slices.Index, and of Like and Same. -/
import Derived.RegionTactic
import Derived.Deep.QuietTactic
import Derived.BigQuiet
import Derived.Lib.SlicesS
import Derived.Test.YtmbgndcahlopdaaGreatGOrdB
namespace Go.Proofs.YtmbgndcahlopdaaGreat
set_option maxRecDepth 100000
open Go.RowKit Go.Shelf

end Go.Proofs.YtmbgndcahlopdaaGreat

/- Walks of slices.Index, Find, between, Edges. -/
namespace Go.Proofs.YtmbgndcahlopdaaGreat
set_option maxRecDepth 100000
open Go.RowKit Go.Shelf

end Go.Proofs.YtmbgndcahlopdaaGreat
