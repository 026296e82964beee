/- A map with strings for keys, made entry by entry, and asked; over no program. -/
import Derived.WideMake
import Derived.RangeFuncRecord
import Derived.Below
import Derived.Test.YtmbgndcahlopdaaGBase
namespace Go.Proofs.Ytmbgndcahlopdaa
set_option maxRecDepth 100000
open Go.RowKit
theorem putObj_alloc (w : World) (o o' : Obj) : (w.alloc o).putObj w.heap.size o' = w.alloc o' := by
  have h : (w.heap.push o).setIfInBounds w.heap.size o' = w.heap.push o' := by
    refine Array.ext_getElem? fun k => ?_
    rw [Array.getElem?_setIfInBounds, Array.getElem?_push, Array.getElem?_push, Array.size_push]
    by_cases hk : k = w.heap.size
    · subst hk
      rw [if_pos rfl, if_pos (by omega), if_pos rfl]
    · rw [if_neg (fun e => hk e.symm), if_neg hk, if_neg hk]
  show ({ (w.alloc o) with heap := (w.heap.push o).setIfInBounds w.heap.size o' } : World) = w.alloc o'
  rw [h]
  rfl
end Go.Proofs.Ytmbgndcahlopdaa
