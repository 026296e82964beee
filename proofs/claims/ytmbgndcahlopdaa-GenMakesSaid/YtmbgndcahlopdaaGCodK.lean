/- Walks of instruction (a word's), program. -/
import Derived.Test.YtmbgndcahlopdaaGNotG
import Derived.Test.YtmbgndcahlopdaaGRefJ
namespace Go.Proofs.Ytmbgndcahlopdaa
set_option maxRecDepth 100000
open Go.RowKit Go.Shelf Go.Sort
attribute [local go_sem] Oper.semAt_some
end Go.Proofs.Ytmbgndcahlopdaa

/- Walks of notation.From and code.From (of a lattice and a place that may be). -/
namespace Go.Proofs.Ytmbgndcahlopdaa
set_option maxRecDepth 100000
open Go.RowKit Go.Shelf Go.Sort
attribute [local go_sem] Oper.semAt_some
/-- A slice of instructions. -/
def IsIns (w : World) (B : Nat) (v : Value) (l : List Cd.In) : Prop := ∃ A c, v = .slice A l.length c ∧ Row w B A (icells l) ∧ l.length ≤ c
theorem IsIns.below {w w' : World} {B : Nat} {v : Value} {l : List Cd.In} (h : IsIns w B v l) (hb : Below B w w') : IsIns w' B v l := by
  obtain ⟨A, c, e, hr, hc⟩ := h
  exact ⟨A, c, e, hr.below hb, hc⟩
theorem IsIns.more {w : World} {B B' : Nat} {v : Value} {l : List Cd.In} (h : IsIns w B v l) (hB : B ≤ B') : IsIns w B' v l := by
  obtain ⟨A, c, e, hr, hc⟩ := h
  exact ⟨A, c, e, hr.more hB, hc⟩
end Go.Proofs.Ytmbgndcahlopdaa
