/- Walks of made, checkEdges, Clone and Of. -/
import Derived.Deep.LoopGhost
import Derived.WalkSpells
import Derived.Test.YtjobifclmcdjcaaGreatDoorGOrdC
import Derived.Test.YtjobifclmcdjcaaGreatDoorGOrdP
namespace Go.Proofs.YtjobifclmcdjcaaGreatDoor
set_option maxRecDepth 100000
open Go.RowKit Go.Shelf

theorem getD_some {l : List Nat} {a : Nat} (h : a < l.length) : l[a]? = some (l.getD a 0) := by
  rw [List.getD_eq_getElem?_getD, List.getElem?_eq_getElem h]; rfl

end Go.Proofs.YtjobifclmcdjcaaGreatDoor

/- Walks of checkEdges, Clone and Of. -/
namespace Go.Proofs.YtjobifclmcdjcaaGreatDoor
set_option maxRecDepth 100000
open Go.RowKit Go.Shelf

def isPl (n : Nat) (a : Int) : Bool := decide (0 ≤ a) && decide (a < n)
def edgeOk (n : Nat) (e : Int × Int) : Bool := isPl n e.1 && isPl n e.2
def eN (n : Nat) (es : List (Int × Int)) : Nat := if 1 ≤ n ∧ n ≤ 8 then if es.length ≤ 64 then if es.all (edgeOk n) then 0 else 9 else 8 else 1

def natE (es : List (Int × Int)) : List (Nat × Nat) := es.map fun e => (e.1.toNat, e.2.toNat)
/-- What Of answers. -/
noncomputable def ofN (names : List ByteArray) (es : List (Int × Int)) : Nat := if eN names.length es = 0 then checkN names (Ordr.madeL names.length (natE es)) else eN names.length es
noncomputable def ofNames (names : List ByteArray) (es : List (Int × Int)) : List ByteArray := if ofN names es = 0 then names else []
noncomputable def ofUp (names : List ByteArray) (es : List (Int × Int)) : List Nat := if ofN names es = 0 then Ordr.madeL names.length (natE es) else []
noncomputable def OfRes (w : World) (names : List ByteArray) (es : List (Int × Int)) : Ending → World → Prop := LatRes w (ofN names es) (ofNames names es) (ofUp names es)
theorem OfRes.no {w w' : World} {names : List ByteArray} {es : List (Int × Int)} {n : Nat} (hn : ofN names es = n) (hz : n ≠ 0) (hb : Below w.heap.size w w') : OfRes w names es (.returned (.tuple #[.agg #[.slice none 0 0, .slice none 0 0], .int .i64 (n : Int)])) w' := by
  refine ⟨_, by rw [hn], ?_, hb⟩
  unfold ofNames ofUp
  rw [hn, if_neg hz, if_neg hz]
  exact IsLat.none_ _ _
theorem OfRes.yes {w w' : World} {names : List ByteArray} {es : List (Int × Int)} {v : Value} (hn : ofN names es = 0) (h : IsLat w' w'.heap.size v names (Ordr.madeL names.length (natE es))) (hb : Below w.heap.size w w') : OfRes w names es (.returned (.tuple #[v, .int .i64 0])) w' := by
  refine ⟨_, by rw [hn]; rfl, ?_, hb⟩
  unfold ofNames ofUp
  rw [hn, if_pos rfl, if_pos rfl]
  exact h
end Go.Proofs.YtjobifclmcdjcaaGreatDoor

/- Walks of the reference's power, within, names. -/
namespace Go.Proofs.YtjobifclmcdjcaaGreatDoor
set_option maxRecDepth 100000
open Go.RowKit Go.Shelf

end Go.Proofs.YtjobifclmcdjcaaGreatDoor

/- Walks of the reference's Make. -/
namespace Go.Proofs.YtjobifclmcdjcaaGreatDoor
set_option maxRecDepth 100000
open Go.RowKit Go.Shelf

/-- The reference's T. -/
def TRes (w : World) (n : Nat) (names : List ByteArray) (up : List Nat) (e : Ending) (w' : World) : Prop :=
  ∃ x0 x1, e = .returned (.agg #[x0, x1, .int .i64 (n : Int)]) ∧ IsLat w' w'.heap.size (.agg #[x0, x1]) names up ∧ Below w.heap.size w w'
theorem TRes.none_ {w w' : World} {n : Nat} (hb : Below w.heap.size w w') : TRes w n [] [] (.returned (.agg #[.slice none 0 0, .slice none 0 0, .int .i64 (n : Int)])) w' := ⟨_, _, rfl, IsLat.none_ _ _, hb⟩

end Go.Proofs.YtjobifclmcdjcaaGreatDoor

/- Walk of the reference's Make at a kind. -/
namespace Go.Proofs.YtjobifclmcdjcaaGreatDoor
set_option maxRecDepth 100000
open Go.RowKit Go.Shelf

end Go.Proofs.YtjobifclmcdjcaaGreatDoor

/- Walk of the reference's Make at a kind. -/
namespace Go.Proofs.YtjobifclmcdjcaaGreatDoor
set_option maxRecDepth 100000
open Go.RowKit Go.Shelf

end Go.Proofs.YtjobifclmcdjcaaGreatDoor

/- The reference's Make, whole. -/
namespace Go.Proofs.YtjobifclmcdjcaaGreatDoor
set_option maxRecDepth 100000
open Go.RowKit Go.Shelf

end Go.Proofs.YtjobifclmcdjcaaGreatDoor
