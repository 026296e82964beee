/- Walks of package order's small functions. -/
import Derived.Deep.DeepFit
import Derived.LoopTactic
import Derived.Test.YtjobifclmcdjcaaGreatDoorGOrdP
import Derived.Test.YtjobifclmcdjcaaGreatDoorGOrd
import Derived.Test.YtjobifclmcdjcaaGreatDoorGPub
import Derived.Test.YtjobifclmcdjcaaGreatDoorGMapLit
namespace Go.Proofs.YtjobifclmcdjcaaGreatDoor
set_option maxRecDepth 100000
open Go.RowKit Go.Shelf

/-- What makes a lattice's rows: the rows, or nothing. -/
def Rowed (w : World) (ok : Bool) (l : List Nat) (e : Ending) (w' : World) : Prop :=
  (if ok then ∃ g, e = .returned (.tuple #[.slice (some ⟨g, 0, none⟩) l.length l.length, .bool true]) ∧ Blk w' g 75 (u32s l).toArray else e = .returned (.tuple #[.slice none 0 0, .bool false])) ∧ Below w.heap.size w w'
theorem Rowed.no {w w' : World} {l : List Nat} (hb : Below w.heap.size w w') : Rowed w false l (.returned (.tuple #[.slice none 0 0, .bool false])) w' := ⟨by simp, hb⟩
theorem Rowed.yes {w w' : World} {l : List Nat} {g n : Nat} (hn : l.length = n) (h : Blk w' g 75 (u32s l).toArray) (hb : Below w.heap.size w w') : Rowed w true l (.returned (.tuple #[.slice (some ⟨g, 0, none⟩) n n, .bool true])) w' := by
  subst hn
  exact ⟨by simp only [if_true]; exact ⟨g, rfl, h⟩, hb⟩

/- The map of functions. -/
end Go.Proofs.YtjobifclmcdjcaaGreatDoor
