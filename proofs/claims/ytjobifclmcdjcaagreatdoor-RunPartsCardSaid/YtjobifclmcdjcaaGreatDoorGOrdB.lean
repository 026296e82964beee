/- Walks of package order's named and Make. -/
import Derived.Test.YtjobifclmcdjcaaGreatDoorGOrdA
import Derived.Test.YtjobifclmcdjcaaGreatDoorGFew
namespace Go.Proofs.YtjobifclmcdjcaaGreatDoor
set_option maxRecDepth 100000
open Go.RowKit Go.Shelf

def lettersB : ByteArray := ⟨#[97, 98, 99, 100, 101, 102, 103, 104]⟩
def letter (i : Nat) : ByteArray := lettersB.extract i (i + 1)
def named (n : Nat) : List ByteArray := (List.range n).map letter
/-- A lattice, and an error. -/
def LatRes (w : World) (n : Nat) (names : List ByteArray) (up : List Nat) (e : Ending) (w' : World) : Prop :=
  ∃ v, e = .returned (.tuple #[v, .int .i64 (n : Int)]) ∧ IsLat w' w'.heap.size v names up ∧ Below w.heap.size w w'
theorem IsLat.none_ (w : World) (B : Nat) : IsLat w B (.agg #[.slice none 0 0, .slice none 0 0]) [] [] :=
  ⟨⟨none, none, 0, 0, rfl, Row.nil, ⟨Row.nil, fun k x hx => by simp at hx⟩⟩, fun s hs => by simp at hs, ⟨by simp, by simp⟩, fun A n c A' n' c' h => by
    injection h with h; injection h with h; injection h with e1 h; injection h with e2 h
    injection e1 with _ a b; injection e2 with _ c d; omega⟩
def MakeRes (w : World) (ok : Bool) (l : List Nat) : Ending → World → Prop := LatRes w (if ok then 0 else 1) (if ok then named l.length else []) (if ok then l else [])
theorem MakeRes.no {w w' : World} {l : List Nat} (hb : Below w.heap.size w w') : MakeRes w false l (.returned (.tuple #[.agg #[.slice none 0 0, .slice none 0 0], .int .i64 1])) w' := ⟨_, rfl, IsLat.none_ _ _, hb⟩
theorem MakeRes.yes {w w' : World} {l : List Nat} {v : Value} (h : IsLat w' w'.heap.size v (named l.length) l) (hb : Below w.heap.size w w') : MakeRes w true l (.returned (.tuple #[v, .int .i64 0])) w' := ⟨_, rfl, h, hb⟩
end Go.Proofs.YtjobifclmcdjcaaGreatDoor
