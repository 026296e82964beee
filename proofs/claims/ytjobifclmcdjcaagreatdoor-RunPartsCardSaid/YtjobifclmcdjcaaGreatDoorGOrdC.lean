/- Walks of slices.Equal, slices.Index, and of Like and Same. -/
import Derived.RegionTactic
import Derived.Deep.QuietTactic
import Derived.BigQuiet
import Derived.Lib.SlicesS
import Derived.Test.YtjobifclmcdjcaaGreatDoorGOrdB
namespace Go.Proofs.YtjobifclmcdjcaaGreatDoor
set_option maxRecDepth 100000
open Go.RowKit Go.Shelf

end Go.Proofs.YtjobifclmcdjcaaGreatDoor

/- Walks of slices.Index, Find, between, Edges. -/
namespace Go.Proofs.YtjobifclmcdjcaaGreatDoor
set_option maxRecDepth 100000
open Go.RowKit Go.Shelf

/-- The place of a name. -/
def idxN (l : List ByteArray) (s : ByteArray) : Option Nat := l.findIdx? fun x => decide (x = s)
end Go.Proofs.YtjobifclmcdjcaaGreatDoor

/- Walks of between and Edges. -/
namespace Go.Proofs.YtjobifclmcdjcaaGreatDoor
set_option maxRecDepth 100000
open Go.RowKit Go.Shelf

namespace Ordr
def bt (up : List Nat) (a b c : Nat) : Bool := decide (c ≠ a) && decide (c ≠ b) && Lat.fl up a c && Lat.fl up c b
end Ordr

/-- A slice of edges. -/
def IsEdges (w : World) (B : Nat) (v : Value) (es : List (Int × Int)) : Prop := ∃ A c, v = .slice A es.length c ∧ Row w B A (ecells es) ∧ es.length ≤ c ∧ es.length ≤ 1000
theorem IsEdges.below {w w' : World} {B : Nat} {v : Value} {es : List (Int × Int)} (h : IsEdges w B v es) (hb : Below B w w') : IsEdges w' B v es := by
  obtain ⟨A, c, e, hr, hc, hl⟩ := h
  exact ⟨A, c, e, hr.below hb, hc, hl⟩
theorem IsEdges.more {w : World} {B B' : Nat} {v : Value} {es : List (Int × Int)} (h : IsEdges w B v es) (hB : B ≤ B') : IsEdges w B' v es := by
  obtain ⟨A, c, e, hr, hc, hl⟩ := h
  exact ⟨A, c, e, hr.more hB, hc, hl⟩
theorem IsEdges.nil (w : World) (B : Nat) : IsEdges w B (.slice none 0 0) [] := ⟨none, 0, rfl, Row.nil, Nat.le_refl _, by simp⟩

end Go.Proofs.YtjobifclmcdjcaaGreatDoor
