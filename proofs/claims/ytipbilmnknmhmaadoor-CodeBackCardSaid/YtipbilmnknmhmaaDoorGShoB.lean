/- Walks of alone, within, between (by gen_sho.py). -/
import Derived.Handy
import Derived.StillTailTactics
import Derived.Test.YtipbilmnknmhmaaDoorGShoA
namespace Go.Proofs.YtipbilmnknmhmaaDoor
set_option maxRecDepth 100000
open Go.RowKit Go.Shelf

end Go.Proofs.YtipbilmnknmhmaaDoor

/- The two piles in memory. -/
namespace Go.Proofs.YtipbilmnknmhmaaDoor
set_option maxRecDepth 100000
open Go.RowKit Go.Shelf

section
variable {R : Nat} {vc vl : Value} {cs ls : List Sh.Th} {W w' : World}
end
end Go.Proofs.YtipbilmnknmhmaaDoor

/- Walks of put, takeTwo, ofTwo (by gen_sho.py). -/
namespace Go.Proofs.YtipbilmnknmhmaaDoor
set_option maxRecDepth 100000
open Go.RowKit Go.Shelf

end Go.Proofs.YtipbilmnknmhmaaDoor
