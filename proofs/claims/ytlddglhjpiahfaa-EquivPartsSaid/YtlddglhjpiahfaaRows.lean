/-
  No cell of these rows narrows 'for every input' (looked for: loops, veiled, ifaces, maps, wideKeys, modest, calm, conditions, laid).
  DERIVED. THE GIVEN ROWS OF THIS SEAT. 3 by the template 'for every input the law returns true; each argument reads behind the call as it read before'; 0 by the template 'total and deterministic' (their statements: YtlddglhjpiahfaaTotals.lean).
  GIVEN WITH THE SEED: the statements are not yours to turn. If you find one false, say at which input.
  Laid BY PROGRAM, IN A SANDBOX (cutbox-rows.mjs): the forced cells as the released guide's own fill.sh prints them over the translation 8ca0f35ba8961eeb… (all of the seat's roots in one cut). By AI agents, Wed Nov 11 2026. No macro, syntax, notation, axiom, sorry.
-/
import Derived.Test.YtlddglhjpiahfaaChecked
import GoSem.Claim
import GoSem.ClaimJoined
import GoSem.ClaimMapViews
import Derived.JoinedTies
import Derived.KernelRfl
namespace Go.Proofs.Ytlddglhjpiahfaa
/- THE CELL 'sum', in the pinned program and in every row, IS THE sha256 OF THE DUMP (.gsa) THAT YtlddglhjpiahfaaProg.lean LOADS. Nothing in Lean hashes anything: it is a label: what it is worth is what the hold of that sum in a sandbox is worth. -/
noncomputable def Try.pinned : Pinned := { name := "ytlddglhjpiahfaa", sum := "8ca0f35ba8961eeb13fc78a26356967d66882c297d3e71d465fdd44e6b1764e1", checked := Try.checked }
namespace Rows
def none {H : Type} : Left H := { results := [], args := [] }

/-- 'reticentlaw12.EquivParts': WHATEVER THE INPUT: true; the input reads as it did. -/
def equivPartsSpec : ChangeSpec := { name := "equivParts", fn := fun _ => fun
  | [d1, d2, d3, d4] => { results := [.lit (.bool true)], args := [d1, d2, d3, d4] }
  | _ => none }
def equivPartsRow : OpenClaim := { program := "ytlddglhjpiahfaa", sum := "8ca0f35ba8961eeb13fc78a26356967d66882c297d3e71d465fdd44e6b1764e1", func := "reticent/reticentlaw12.EquivParts", spec := "equivParts", unfollowed := true, recurses := true, apart := false }
def EquivPartsSaid : Prop := equivPartsRow.holds Try.pinned (OpenSpec.ofChange equivPartsSpec)

/-- ITS FALSE NEIGHBOUR: 'it returns false'. Refute it at one input. -/
def equivPartsWrong : ChangeSpec := { name := "equivParts", fn := fun _ => fun
  | [d1, d2, d3, d4] => { results := [.lit (.bool false)], args := [d1, d2, d3, d4] }
  | _ => none }
def EquivPartsWrongFalsely : Prop := equivPartsRow.holds Try.pinned (OpenSpec.ofChange equivPartsWrong)

/-- 'reticentlaw12.EquivStates': WHATEVER THE INPUT: true; the input reads as it did. -/
def equivStatesSpec : ChangeSpec := { name := "equivStates", fn := fun _ => fun
  | [d1, d2, d3, d4] => { results := [.lit (.bool true)], args := [d1, d2, d3, d4] }
  | _ => none }
def equivStatesRow : OpenClaim := { program := "ytlddglhjpiahfaa", sum := "8ca0f35ba8961eeb13fc78a26356967d66882c297d3e71d465fdd44e6b1764e1", func := "reticent/reticentlaw12.EquivStates", spec := "equivStates", unfollowed := true, recurses := true, apart := false }
def EquivStatesSaid : Prop := equivStatesRow.holds Try.pinned (OpenSpec.ofChange equivStatesSpec)

/-- ITS FALSE NEIGHBOUR: 'it returns false'. Refute it at one input. -/
def equivStatesWrong : ChangeSpec := { name := "equivStates", fn := fun _ => fun
  | [d1, d2, d3, d4] => { results := [.lit (.bool false)], args := [d1, d2, d3, d4] }
  | _ => none }
def EquivStatesWrongFalsely : Prop := equivStatesRow.holds Try.pinned (OpenSpec.ofChange equivStatesWrong)

/-- 'reticentlaw12.EquivHolds': WHATEVER THE INPUT: true; the input reads as it did. -/
def equivHoldsSpec : ChangeSpec := { name := "equivHolds", fn := fun _ => fun
  | [d1, d2, d3, d4, d5] => { results := [.lit (.bool true)], args := [d1, d2, d3, d4, d5] }
  | _ => none }
def equivHoldsRow : OpenClaim := { program := "ytlddglhjpiahfaa", sum := "8ca0f35ba8961eeb13fc78a26356967d66882c297d3e71d465fdd44e6b1764e1", func := "reticent/reticentlaw12.EquivHolds", spec := "equivHolds", unfollowed := true, recurses := true, apart := false }
def EquivHoldsSaid : Prop := equivHoldsRow.holds Try.pinned (OpenSpec.ofChange equivHoldsSpec)

/-- ITS FALSE NEIGHBOUR: 'it returns false'. Refute it at one input. -/
def equivHoldsWrong : ChangeSpec := { name := "equivHolds", fn := fun _ => fun
  | [d1, d2, d3, d4, d5] => { results := [.lit (.bool false)], args := [d1, d2, d3, d4, d5] }
  | _ => none }
def EquivHoldsWrongFalsely : Prop := equivHoldsRow.holds Try.pinned (OpenSpec.ofChange equivHoldsWrong)

/- THE SECOND FORM. 'bulk': how many values and letters a reading holds, each counted each time it is reached (what is shared counts as often as it is met; a slice's spare places count too). A statement '..UptoSaid' is the law's where the arguments, and the package variables that the reading takes, are together of bulk at most 1048576: NARROWER than '..Said'. Prove '..Said' where nothing that the law and all that it calls make is longer than what came in: it says more and counts as full. Else prove '..UptoSaid'. A law counts once. -/
mutual
def uptoBulk {H : Type} : DataW H → Nat
  | .lit (.string bytes) => bytes.length + 1
  | .lit _ => 1
  | .nil => 1
  | .ptr d => uptoBulk d + 1
  | .slice elems spare => uptoBulkAll elems + uptoBulkAll spare + 1
  | .agg parts => uptoBulkAll parts + 1
  | .iface _ d => uptoBulk d + 1
  | .map entries => uptoBulkEntries entries + 1
  | .held _ => 1
def uptoBulkAll {H : Type} : List (DataW H) → Nat
  | [] => 0
  | d :: r => uptoBulk d + uptoBulkAll r
def uptoBulkEntries {H : Type} : List (Lit × DataW H) → Nat
  | [] => 0
  | x :: r => uptoBulkEntry x + uptoBulkEntries r
def uptoBulkEntry {H : Type} : Lit × DataW H → Nat
  | (.string bytes, d) => bytes.length + uptoBulk d + 1
  | (_, d) => uptoBulk d + 1
 end
def uptoSmall : (H : Type) → List (DataW H) → Bool := fun _ ds => decide (uptoBulkAll ds ≤ 1048576)
def OpenSpec.upto (s : _root_.Go.ChangeSpec) : _root_.Go.OpenSpec := { _root_.Go.OpenSpec.ofChange s with cond := some uptoSmall }

/-- 'reticentlaw12.EquivParts', WHERE WHAT IT READS IS OF BULK AT MOST 1048576: true; the input reads as it did. -/
def equivPartsUptoRow : OpenClaim := { program := "ytlddglhjpiahfaa", sum := "8ca0f35ba8961eeb13fc78a26356967d66882c297d3e71d465fdd44e6b1764e1", func := "reticent/reticentlaw12.EquivParts", spec := "equivParts", unfollowed := true, recurses := true, apart := false, narrowed := true }
def EquivPartsUptoSaid : Prop := equivPartsUptoRow.holds Try.pinned (OpenSpec.upto equivPartsSpec)

/-- 'reticentlaw12.EquivStates', WHERE WHAT IT READS IS OF BULK AT MOST 1048576: true; the input reads as it did. -/
def equivStatesUptoRow : OpenClaim := { program := "ytlddglhjpiahfaa", sum := "8ca0f35ba8961eeb13fc78a26356967d66882c297d3e71d465fdd44e6b1764e1", func := "reticent/reticentlaw12.EquivStates", spec := "equivStates", unfollowed := true, recurses := true, apart := false, narrowed := true }
def EquivStatesUptoSaid : Prop := equivStatesUptoRow.holds Try.pinned (OpenSpec.upto equivStatesSpec)

/-- 'reticentlaw12.EquivHolds', WHERE WHAT IT READS IS OF BULK AT MOST 1048576: true; the input reads as it did. -/
def equivHoldsUptoRow : OpenClaim := { program := "ytlddglhjpiahfaa", sum := "8ca0f35ba8961eeb13fc78a26356967d66882c297d3e71d465fdd44e6b1764e1", func := "reticent/reticentlaw12.EquivHolds", spec := "equivHolds", unfollowed := true, recurses := true, apart := false, narrowed := true }
def EquivHoldsUptoSaid : Prop := equivHoldsUptoRow.holds Try.pinned (OpenSpec.upto equivHoldsSpec)

end Rows
end Go.Proofs.Ytlddglhjpiahfaa
