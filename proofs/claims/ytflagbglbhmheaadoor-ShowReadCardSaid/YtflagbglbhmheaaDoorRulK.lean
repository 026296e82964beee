/- The walk of Uses. -/
import Derived.Test.YtflagbglbhmheaaDoorRulJ
namespace Go.Proofs.YtflagbglbhmheaaDoor
set_option maxRecDepth 100000
open Go.RowKit Go.Shelf
namespace Rl
def usesOf (r : List Int) : Nat := (if (8 : Int) ∈ r then 1 else 0) + (if (9 : Int) ∈ r then 2 else 0) + (if (10 : Int) ∈ r then 4 else 0) + (if (11 : Int) ∈ r then 8 else 0)
theorem usesOf_lt (r : List Int) : usesOf r < 16 := by
  unfold usesOf
  split <;> split <;> split <;> split <;> omega
theorem uses_other {r : List Int} {n : Int} (h : n < 8 ∨ 11 < n) : usesOf (r ++ [n]) = usesOf r := by
  unfold usesOf
  simp only [List.mem_append, List.mem_singleton]
  have e8 : ¬ (8 : Int) = n := by omega
  have e9 : ¬ (9 : Int) = n := by omega
  have e10 : ¬ (10 : Int) = n := by omega
  have e11 : ¬ (11 : Int) = n := by omega
  simp only [e8, e9, e10, e11, or_false]
theorem uses_8 (r : List Int) : usesOf (r ++ [8]) = usesOf r ||| 1 := by
  unfold usesOf
  by_cases h8 : (8 : Int) ∈ r <;> by_cases h9 : (9 : Int) ∈ r <;> by_cases h10 : (10 : Int) ∈ r <;> by_cases h11 : (11 : Int) ∈ r <;> simp [h8, h9, h10, h11]
theorem uses_9 (r : List Int) : usesOf (r ++ [9]) = usesOf r ||| 2 := by
  unfold usesOf
  by_cases h8 : (8 : Int) ∈ r <;> by_cases h9 : (9 : Int) ∈ r <;> by_cases h10 : (10 : Int) ∈ r <;> by_cases h11 : (11 : Int) ∈ r <;> simp [h8, h9, h10, h11]
theorem uses_10 (r : List Int) : usesOf (r ++ [10]) = usesOf r ||| 4 := by
  unfold usesOf
  by_cases h8 : (8 : Int) ∈ r <;> by_cases h9 : (9 : Int) ∈ r <;> by_cases h10 : (10 : Int) ∈ r <;> by_cases h11 : (11 : Int) ∈ r <;> simp [h8, h9, h10, h11]
theorem uses_11 (r : List Int) : usesOf (r ++ [11]) = usesOf r ||| 8 := by
  unfold usesOf
  by_cases h8 : (8 : Int) ∈ r <;> by_cases h9 : (9 : Int) ∈ r <;> by_cases h10 : (10 : Int) ∈ r <;> by_cases h11 : (11 : Int) ∈ r <;> simp [h8, h9, h10, h11]
def made (r : List Int) : Bool := right r false || right r true
end Rl
theorem take_next {α : Type} {l : List α} {k : Nat} (h : k < l.length) : l.take (k + 1) = l.take k ++ [l[k]] := by rw [List.take_succ_eq_append_getElem h]

theorem or_bits1 : ∀ u : Nat, u < 16 → bits BinOp.or IntKind.u32 (u : Int) 1 = ((u ||| 1 : Nat) : Int) := by decide +kernel
theorem or_bits2 : ∀ u : Nat, u < 16 → bits BinOp.or IntKind.u32 (u : Int) 2 = ((u ||| 2 : Nat) : Int) := by decide +kernel
theorem or_bits4 : ∀ u : Nat, u < 16 → bits BinOp.or IntKind.u32 (u : Int) 4 = ((u ||| 4 : Nat) : Int) := by decide +kernel
theorem or_bits8 : ∀ u : Nat, u < 16 → bits BinOp.or IntKind.u32 (u : Int) 8 = ((u ||| 8 : Nat) : Int) := by decide +kernel

/-- What Uses answers. -/
def UsesRes (w : World) (rule : List Int) (e : Ending) (w' : World) : Prop :=
  e = .returned (.tuple #[.int .u32 (if Rl.made rule = true then (Rl.usesOf rule : Nat) else 0 : Int), .int .i64 (if Rl.made rule = true then 0 else 1)]) ∧ Below w.heap.size w w'
theorem UsesRes.no {w w' : World} {rule : List Int} (h : Rl.made rule = false) (hb : Below w.heap.size w w') : UsesRes w rule (.returned (.tuple #[.int .u32 0, .int .i64 1])) w' := by
  unfold UsesRes
  rw [if_neg (by rw [h]; decide), if_neg (by rw [h]; decide)]
  exact ⟨rfl, hb⟩
theorem UsesRes.yes {w w' : World} {rule : List Int} (h : Rl.made rule = true) (hb : Below w.heap.size w w') : UsesRes w rule (.returned (.tuple #[.int .u32 (Rl.usesOf rule : Nat), .int .i64 0])) w' := by
  unfold UsesRes
  rw [if_pos h, if_pos h]
  exact ⟨rfl, hb⟩

end Go.Proofs.YtflagbglbhmheaaDoor
