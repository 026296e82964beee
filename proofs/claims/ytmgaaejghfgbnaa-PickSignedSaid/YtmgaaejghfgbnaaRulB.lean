/- Walks of the reader's small methods. -/
import Derived.Test.YtmgaaejghfgbnaaRulA
import Derived.Test.YtmgaaejghfgbnaaLexA
import Derived.BigRegion
import Derived.RangeFuncBox
namespace Go.Proofs.Ytmgaaejghfgbnaa
set_option maxRecDepth 100000
open Go.RowKit Go.Shelf

theorem isN_of {l : List Lx.Tk} {k : Nat} {t : Lx.Tk} (h : l[k]? = some t) (x : ByteArray) : Rl.isN l k x = decide ((t.kind = 1 ∨ t.kind = 3) ∧ t.text = x) := by
  unfold Rl.isN
  rw [h]

theorem str_beq (a b : ByteArray) : (a.toList == b.toList) = decide (a = b) := by
  rw [Bool.eq_iff_iff, decide_eq_true_eq, beq_iff_eq, Lib.toList_data, Lib.toList_data]
  constructor
  · intro e
    rw [← Lib.mk_data a, ← Lib.mk_data b, e]
  · intro e
    rw [e]
theorem blk_grow {W W' : World} {o : Obj} {g : Nat} {t : TypeId} {cs : Array Value} {row : Option Nat} (hb : Blk W g t cs) (hne : some g ≠ row) (hgr : ((W.alloc o).drew).grownBy W' row) : Blk W' g t cs :=
  (hgr.block g (hb.alloc o).lt hne).trans (hb.alloc o)
theorem own_ne {W : World} {v : Value} {g n : Nat} {e : TypeId} {xs : List Value} (hown : W.ownsRow (g + 1) e 1 v n xs) : some g ≠ v.ownBlock := fun he => by
  have := (hown.lt g he.symm).1
  omega
theorem cell_one_new (w : World) (t : TypeId) (u : Value) : ∀ j v, [u][j]? = some v → (w.alloc (.cells #[u] t)).drew.cell? ((⟨w.heap.size, 0, none⟩ : Addr).add j) = some v := fun j v hv => cells_new w [u] t j v hv
end Go.Proofs.Ytmgaaejghfgbnaa
