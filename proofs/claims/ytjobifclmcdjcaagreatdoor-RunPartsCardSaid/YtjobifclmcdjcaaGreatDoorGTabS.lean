/- strings.Builder and strings.Contains in this program: the library's contracts, with this program's numbers (by unlay.py). -/
import Derived.Shelf.Strings.BuilderK
import Derived.Shelf.Strings.Search3
import Derived.Test.YtjobifclmcdjcaaGreatDoorGLexS
namespace Go.Proofs.YtjobifclmcdjcaaGreatDoor
set_option maxRecDepth 100000
open Go.Shelf
end Go.Proofs.YtjobifclmcdjcaaGreatDoor
