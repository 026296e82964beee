/- Walks of lex's closures. -/
import Derived.BigQuiet
import Derived.Deep.QuietTactic
import Derived.Deep.DeepFit
import Derived.LoopTactic
import Derived.Lib.Bytealg
import Derived.Test.YtlddglhjpiahfaaGLexP
import Derived.Test.YtlddglhjpiahfaaGPairs
import Derived.Test.YtlddglhjpiahfaaGLexS
namespace Go.Proofs.Ytlddglhjpiahfaa
set_option maxRecDepth 100000
open Go.RowKit Go.Shelf

theorem retb {a b : Bool} (h : a = b) : Ending.returned (.bool a) = .returned (.bool b) := by rw [h]
end Go.Proofs.Ytlddglhjpiahfaa

/- Walks of pieces and first. -/
namespace Go.Proofs.Ytlddglhjpiahfaa
set_option maxRecDepth 100000
open Go.RowKit Go.Shelf

end Go.Proofs.Ytlddglhjpiahfaa
