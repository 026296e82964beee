/- Walks of slices.Clone at instructions, atoms and slots, and of package step's must and copied (by gen_stpa.py). -/
import Derived.Laws.IdiomCopy
import Derived.Lib.SlBuf
import Derived.Lib.SliceRun
import Derived.WalkSmall
import Derived.Test.YtlddglhjpiahfaaGCodE
import Derived.Test.YtlddglhjpiahfaaGNotG
namespace Go.Proofs.Ytlddglhjpiahfaa
set_option maxRecDepth 100000
open Go.RowKit Go.Shelf
attribute [local go_sem] Oper.semAt_some

theorem own_emptyK (w : World) (e : TypeId) (sz : Nat) : (w.alloc (.cells #[] e)).ownsRow w.heap.size e sz (.slice (some ⟨w.heap.size, 0, none⟩) 0 0) 0 [] :=
  ⟨by simp, .inr ⟨w.heap.size, 0, #[], rfl, Nat.le_refl _, World.alloc_heap_new w _, Nat.le_refl _, by unfold maxLen; omega, by simp, by simp⟩⟩
end Go.Proofs.Ytlddglhjpiahfaa
