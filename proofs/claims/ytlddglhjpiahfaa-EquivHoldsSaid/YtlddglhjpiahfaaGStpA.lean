/- Walks of slices.Clone at instructions, atoms and slots, and of package step's must and copied (by gen_stpa.py). -/
import Derived.Laws.IdiomCopy
import Derived.Lib.SlBuf
import Derived.Lib.SliceRun
import Derived.WalkSmall
import Derived.Test.YtlddglhjpiahfaaGCodE
import Derived.Test.YtlddglhjpiahfaaGNotG
namespace Go.Proofs.Ytlddglhjpiahfaa
set_option maxRecDepth 100000
open Go.RowKit Go.Shelf
attribute [local go_sem] Oper.semAt_some

end Go.Proofs.Ytlddglhjpiahfaa
