/- Plain lists of bits by a relation, and edges; over no program. -/
import Derived.Test.YtjobifclmcdjcaaGreatDoorGLat
import Derived.Test.YtjobifclmcdjcaaGreatDoorGBase
namespace Go.Proofs.YtjobifclmcdjcaaGreatDoor
set_option maxRecDepth 100000
open Go.RowKit

namespace Ordr
/-- The bits below k of the labels to which a goes. -/
def rowTo (f : Nat → Nat → Bool) (a : Nat) : Nat → Nat
  | 0 => 0
  | k + 1 => if f a k then rowTo f a k ||| 2 ^ k else rowTo f a k
def ups (f : Nat → Nat → Bool) (n : Nat) : List Nat := (List.range n).map fun i => rowTo f i n
variable {f : Nat → Nat → Bool} {n a b : Nat}
end Ordr

/-- Edges, in a slice. -/
def ecells (es : List (Int × Int)) : List Value := es.flatMap fun e => [.int .i64 e.1, .int .i64 e.2]
end Go.Proofs.YtjobifclmcdjcaaGreatDoor

/- What edges make, as plain data; over no program. -/
namespace Go.Proofs.YtjobifclmcdjcaaGreatDoor
set_option maxRecDepth 100000
open Go.RowKit

namespace Ordr
/-- A way along edges. -/
inductive Reach (ps : List (Nat × Nat)) : Nat → Nat → Prop
  | refl (a : Nat) : Reach ps a a
  | step {a b c : Nat} : (a, b) ∈ ps → Reach ps b c → Reach ps a c
theorem Reach.trans {ps : List (Nat × Nat)} {a b c : Nat} (h : Reach ps a b) (k : Reach ps b c) : Reach ps a c := by
  induction h with
  | refl => exact k
  | step he _ ih => exact .step he (ih k)
theorem Reach.one {ps : List (Nat × Nat)} {a b : Nat} (h : (a, b) ∈ ps) : Reach ps a b := .step h (.refl _)
theorem Reach.mono {ps qs : List (Nat × Nat)} (hs : ∀ p ∈ ps, p ∈ qs) {a b : Nat} (h : Reach ps a b) : Reach qs a b := by
  induction h with
  | refl => exact .refl _
  | step he _ ih => exact .step (hs _ he) ih
theorem Reach.lt {ps : List (Nat × Nat)} {n : Nat} (hv : ∀ p ∈ ps, p.1 < n ∧ p.2 < n) {a b : Nat} (h : Reach ps a b) (ha : a < n) : b < n := by
  induction h with
  | refl => exact ha
  | step he _ ih => exact ih (hv _ he).2
/-- Whether there is one. -/
noncomputable def reachF (ps : List (Nat × Nat)) (a b : Nat) : Bool := @decide (Reach ps a b) (Classical.propDecidable _)
/-- What edges make. -/
noncomputable def madeL (n : Nat) (ps : List (Nat × Nat)) : List Nat := ups (reachF ps) n

/-- Rows on the way to what edges make. -/
structure Part (n : Nat) (ps : List (Nat × Nat)) (up : List Nat) : Prop where
  len : up.length = n
  refl : ∀ a, a < n → Lat.fl up a a = true
  rows : ∀ a, up.getD a 0 < 2 ^ n
  only : ∀ a b, Lat.fl up a b = true → Reach ps a b
variable {n : Nat} {ps : List (Nat × Nat)} {up : List Nat}
/-- Row a takes up row b. -/
def into (up : List Nat) (p : Nat × Nat) : List Nat := up.set p.1 (up.getD p.1 0 ||| up.getD p.2 0)
end Ordr
end Go.Proofs.YtjobifclmcdjcaaGreatDoor
