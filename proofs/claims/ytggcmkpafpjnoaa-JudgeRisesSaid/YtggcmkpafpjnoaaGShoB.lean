/- Walks of alone, within, between (by gen_sho.py). -/
import Derived.Handy
import Derived.StillTailTactics
import Derived.Test.YtggcmkpafpjnoaaGShoA
namespace Go.Proofs.Ytggcmkpafpjnoaa
set_option maxRecDepth 100000
open Go.RowKit Go.Shelf

end Go.Proofs.Ytggcmkpafpjnoaa

/- The two piles in memory. -/
namespace Go.Proofs.Ytggcmkpafpjnoaa
set_option maxRecDepth 100000
open Go.RowKit Go.Shelf

theorem own_keep {W w' : World} {base sz k : Nat} {e : TypeId} {v : Value} {xs : List Value} (h : W.ownsRow base e sz v k xs) (hb : ∀ g, v.ownBlock = some g → w'.heap[g]? = W.heap[g]?) : w'.ownsRow base e sz v k xs := by
  refine ⟨h.1, h.2.imp id ?_⟩
  rintro ⟨g, cap, cur, he, hb', hh, r⟩
  exact ⟨g, cap, cur, he, hb', (hb g (by rw [he]; rfl)).trans hh, r⟩
section
variable {R : Nat} {vc vl : Value} {cs ls : List Sh.Th} {W w' : World}
end
end Go.Proofs.Ytggcmkpafpjnoaa

/- Walks of put, takeTwo, ofTwo (by gen_sho.py). -/
namespace Go.Proofs.Ytggcmkpafpjnoaa
set_option maxRecDepth 100000
open Go.RowKit Go.Shelf

theorem cell_new2 (w : World) (o : Obj) (t : TypeId) (xs : List Value) : ∀ j v, xs[j]? = some v → ((w.alloc o).alloc (.cells xs.toArray t)).drew.cell? ((⟨w.heap.size + 1, 0, none⟩ : Addr).add j) = some v := fun j v hv => by
  have := cells_new (w.alloc o) xs t j v hv
  rwa [show (w.alloc o).heap.size = w.heap.size + 1 by simp] at this
theorem blk_grow2 {W W' : World} {o o2 : Obj} {g : Nat} {t : TypeId} {cs : Array Value} {row : Option Nat} (hb : Blk W g t cs) (hne : some g ≠ row) (hgr : (((W.alloc o).alloc o2).drew).grownBy W' row) : Blk W' g t cs :=
  (hgr.block g ((hb.alloc o).alloc o2).lt hne).trans ((hb.alloc o).alloc o2)

end Go.Proofs.Ytggcmkpafpjnoaa
