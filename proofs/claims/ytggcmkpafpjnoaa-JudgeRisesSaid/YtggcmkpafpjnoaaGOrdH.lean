/- Walks of made, checkEdges, Clone and Of. -/
import Derived.Deep.LoopGhost
import Derived.Test.YtggcmkpafpjnoaaGOrdC
import Derived.Test.YtggcmkpafpjnoaaGOrdP
namespace Go.Proofs.Ytggcmkpafpjnoaa
set_option maxRecDepth 100000
open Go.RowKit Go.Shelf

def toIs (ps : List (Nat × Nat)) : List (Int × Int) := ps.map Ordr.toI
theorem toIs_at {ps : List (Nat × Nat)} {k : Nat} {e : Int × Int} (h : (toIs ps)[k]? = some e) : ∃ p, ps[k]? = some p ∧ e = ((p.1 : Int), (p.2 : Int)) := by
  unfold toIs at h
  rw [List.getElem?_map] at h
  cases hp : ps[k]? with
  | none => rw [hp] at h; cases h
  | some p => rw [hp] at h; injection h with h; exact ⟨p, rfl, h.symm⟩
theorem getD_some {l : List Nat} {a : Nat} (h : a < l.length) : l[a]? = some (l.getD a 0) := by
  rw [List.getD_eq_getElem?_getD, List.getElem?_eq_getElem h]; rfl

/-- What holds in made's loops. -/
def MadeAt (w : World) (n : Nat) (ps : List (Nat × Nat)) (up : List Nat) (wr : World) : Prop :=
  Ordr.Part n ps up ∧ Blk wr w.heap.size 44 (u32s up).toArray ∧ Below w.heap.size w wr

end Go.Proofs.Ytggcmkpafpjnoaa
