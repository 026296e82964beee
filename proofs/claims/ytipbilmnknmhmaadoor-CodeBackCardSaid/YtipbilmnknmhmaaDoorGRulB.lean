/- Walks of the reader's small methods. -/
import Derived.BigRegion
import Derived.RangeFuncBox
import Derived.Test.YtipbilmnknmhmaaDoorGRulA
import Derived.Test.YtipbilmnknmhmaaDoorGLexA
namespace Go.Proofs.YtipbilmnknmhmaaDoor
set_option maxRecDepth 100000
open Go.RowKit Go.Shelf

theorem str_beq (a b : ByteArray) : (a.toList == b.toList) = decide (a = b) := by
  rw [Bool.eq_iff_iff, decide_eq_true_eq, beq_iff_eq, Lib.toList_data, Lib.toList_data]
  constructor
  · intro e
    rw [← Lib.mk_data a, ← Lib.mk_data b, e]
  · intro e
    rw [e]
theorem blk_grow {W W' : World} {o : Obj} {g : Nat} {t : TypeId} {cs : Array Value} {row : Option Nat} (hb : Blk W g t cs) (hne : some g ≠ row) (hgr : ((W.alloc o).drew).grownBy W' row) : Blk W' g t cs :=
  (hgr.block g (hb.alloc o).lt hne).trans (hb.alloc o)
theorem cell_one_new (w : World) (t : TypeId) (u : Value) : ∀ j v, [u][j]? = some v → (w.alloc (.cells #[u] t)).drew.cell? ((⟨w.heap.size, 0, none⟩ : Addr).add j) = some v := fun j v hv => cells_new w [u] t j v hv
end Go.Proofs.YtipbilmnknmhmaaDoor

/- Walks of ofTwo and of done: a pile's last two things, and one number of a rule. -/
namespace Go.Proofs.YtipbilmnknmhmaaDoor
set_option maxRecDepth 100000
open Go.RowKit Go.Shelf

/- One number of a rule. -/
end Go.Proofs.YtipbilmnknmhmaaDoor

/- The walk of Right, and of Uses. -/
namespace Go.Proofs.YtipbilmnknmhmaaDoor
set_option maxRecDepth 100000
open Go.RowKit Go.Shelf

/-- A bool is answered, and old memory stays. -/
def Tells (w : World) (b : Bool) (e : Ending) (w' : World) : Prop := e = .returned (.bool b) ∧ Below w.heap.size w w'

end Go.Proofs.YtipbilmnknmhmaaDoor

/- The walk of Uses. -/
namespace Go.Proofs.YtipbilmnknmhmaaDoor
set_option maxRecDepth 100000
open Go.RowKit Go.Shelf
namespace Rl
def usesOf (r : List Int) : Nat := (if (8 : Int) ∈ r then 1 else 0) + (if (9 : Int) ∈ r then 2 else 0) + (if (10 : Int) ∈ r then 4 else 0) + (if (11 : Int) ∈ r then 8 else 0)
def made (r : List Int) : Bool := right r false || right r true
end Rl
/-- What Uses answers. -/
def UsesRes (w : World) (rule : List Int) (e : Ending) (w' : World) : Prop :=
  e = .returned (.tuple #[.int .u32 (if Rl.made rule = true then (Rl.usesOf rule : Nat) else 0 : Int), .int .i64 (if Rl.made rule = true then 0 else 1)]) ∧ Below w.heap.size w w'
theorem UsesRes.no {w w' : World} {rule : List Int} (h : Rl.made rule = false) (hb : Below w.heap.size w w') : UsesRes w rule (.returned (.tuple #[.int .u32 0, .int .i64 1])) w' := by
  unfold UsesRes
  rw [if_neg (by rw [h]; decide), if_neg (by rw [h]; decide)]
  exact ⟨rfl, hb⟩
theorem UsesRes.yes {w w' : World} {rule : List Int} (h : Rl.made rule = true) (hb : Below w.heap.size w w') : UsesRes w rule (.returned (.tuple #[.int .u32 (Rl.usesOf rule : Nat), .int .i64 0])) w' := by
  unfold UsesRes
  rw [if_pos h, if_pos h]
  exact ⟨rfl, hb⟩

end Go.Proofs.YtipbilmnknmhmaaDoor

/- The walk of what stands between brackets. -/
namespace Go.Proofs.YtipbilmnknmhmaaDoor
set_option maxRecDepth 100000
open Go.RowKit Go.Shelf

end Go.Proofs.YtipbilmnknmhmaaDoor
