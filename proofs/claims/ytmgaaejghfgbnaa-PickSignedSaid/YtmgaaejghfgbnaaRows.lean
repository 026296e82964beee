/-
  No cell of these rows narrows 'for every input' (looked for: loops, veiled, ifaces, maps, wideKeys, modest, calm, conditions, laid).
  DERIVED. THE GIVEN ROWS OF THIS SEAT. 3 by the template 'for every input the law returns true; each argument reads behind the call as it read before'; 0 by the template 'total and deterministic' (their statements: YtmgaaejghfgbnaaTotals.lean).
  GIVEN WITH THE SEED: the statements are not yours to turn. If you find one false, say at which input.
  Laid BY PROGRAM, IN A SANDBOX (cutbox-rows.mjs): the forced cells as the released guide's own fill.sh prints them over the translation d2d3c9a1c0531506… (all of the seat's roots in one cut). By AI agents, Wed Nov 11 2026. No macro, syntax, notation, axiom, sorry.
-/
import Derived.Test.YtmgaaejghfgbnaaChecked
import GoSem.Claim
import GoSem.ClaimJoined
import GoSem.ClaimMapViews
import Derived.JoinedTies
import Derived.KernelRfl
namespace Go.Proofs.Ytmgaaejghfgbnaa
/- THE CELL 'sum', in the pinned program and in every row, IS THE sha256 OF THE DUMP (.gsa) THAT YtmgaaejghfgbnaaProg.lean LOADS. Nothing in Lean hashes anything: it is a label: what it is worth is what the hold of that sum in a sandbox is worth. -/
noncomputable def Try.pinned : Pinned := { name := "ytmgaaejghfgbnaa", sum := "d2d3c9a1c0531506526ee19704adee4fa6d40c2fd08772ea7d9099ca1b03ade7", checked := Try.checked }
namespace Rows
def none {H : Type} : Left H := { results := [], args := [] }

/-- 'reticentlaw14.PickWeighted': WHATEVER THE INPUT: true; the input reads as it did. -/
def pickWeightedSpec : ChangeSpec := { name := "pickWeighted", fn := fun _ => fun
  | [d1, d2, d3] => { results := [.lit (.bool true)], args := [d1, d2, d3] }
  | _ => none }
def pickWeightedRow : OpenClaim := { program := "ytmgaaejghfgbnaa", sum := "d2d3c9a1c0531506526ee19704adee4fa6d40c2fd08772ea7d9099ca1b03ade7", func := "reticent/reticentlaw14.PickWeighted", spec := "pickWeighted", unfollowed := true, recurses := true, apart := false }
def PickWeightedSaid : Prop := pickWeightedRow.holds Try.pinned (OpenSpec.ofChange pickWeightedSpec)

/-- ITS FALSE NEIGHBOUR: 'it returns false'. Refute it at one input. -/
def pickWeightedWrong : ChangeSpec := { name := "pickWeighted", fn := fun _ => fun
  | [d1, d2, d3] => { results := [.lit (.bool false)], args := [d1, d2, d3] }
  | _ => none }
def PickWeightedWrongFalsely : Prop := pickWeightedRow.holds Try.pinned (OpenSpec.ofChange pickWeightedWrong)

/-- 'reticentlaw14.PickSigned': WHATEVER THE INPUT: true; the input reads as it did. -/
def pickSignedSpec : ChangeSpec := { name := "pickSigned", fn := fun _ => fun
  | [d1, d2, d3] => { results := [.lit (.bool true)], args := [d1, d2, d3] }
  | _ => none }
def pickSignedRow : OpenClaim := { program := "ytmgaaejghfgbnaa", sum := "d2d3c9a1c0531506526ee19704adee4fa6d40c2fd08772ea7d9099ca1b03ade7", func := "reticent/reticentlaw14.PickSigned", spec := "pickSigned", unfollowed := true, recurses := true, apart := false }
def PickSignedSaid : Prop := pickSignedRow.holds Try.pinned (OpenSpec.ofChange pickSignedSpec)

/-- ITS FALSE NEIGHBOUR: 'it returns false'. Refute it at one input. -/
def pickSignedWrong : ChangeSpec := { name := "pickSigned", fn := fun _ => fun
  | [d1, d2, d3] => { results := [.lit (.bool false)], args := [d1, d2, d3] }
  | _ => none }
def PickSignedWrongFalsely : Prop := pickSignedRow.holds Try.pinned (OpenSpec.ofChange pickSignedWrong)

/-- 'reticentlaw14.PickBack': WHATEVER THE INPUT: true; the input reads as it did. -/
def pickBackSpec : ChangeSpec := { name := "pickBack", fn := fun _ => fun
  | [d1, d2, d3, d4] => { results := [.lit (.bool true)], args := [d1, d2, d3, d4] }
  | _ => none }
def pickBackRow : OpenClaim := { program := "ytmgaaejghfgbnaa", sum := "d2d3c9a1c0531506526ee19704adee4fa6d40c2fd08772ea7d9099ca1b03ade7", func := "reticent/reticentlaw14.PickBack", spec := "pickBack", unfollowed := true, recurses := true, apart := false }
def PickBackSaid : Prop := pickBackRow.holds Try.pinned (OpenSpec.ofChange pickBackSpec)

/-- ITS FALSE NEIGHBOUR: 'it returns false'. Refute it at one input. -/
def pickBackWrong : ChangeSpec := { name := "pickBack", fn := fun _ => fun
  | [d1, d2, d3, d4] => { results := [.lit (.bool false)], args := [d1, d2, d3, d4] }
  | _ => none }
def PickBackWrongFalsely : Prop := pickBackRow.holds Try.pinned (OpenSpec.ofChange pickBackWrong)

/- THE SECOND FORM. 'bulk': how many values and letters a reading holds, each counted each time it is reached (what is shared counts as often as it is met; a slice's spare places count too). A statement '..UptoSaid' is the law's where the arguments, and the package variables that the reading takes, are together of bulk at most 1048576: NARROWER than '..Said'. Prove '..Said' where nothing that the law and all that it calls make is longer than what came in: it says more and counts as full. Else prove '..UptoSaid'. A law counts once. -/
mutual
def uptoBulk {H : Type} : DataW H → Nat
  | .lit (.string bytes) => bytes.length + 1
  | .lit _ => 1
  | .nil => 1
  | .ptr d => uptoBulk d + 1
  | .slice elems spare => uptoBulkAll elems + uptoBulkAll spare + 1
  | .agg parts => uptoBulkAll parts + 1
  | .iface _ d => uptoBulk d + 1
  | .map entries => uptoBulkEntries entries + 1
  | .held _ => 1
def uptoBulkAll {H : Type} : List (DataW H) → Nat
  | [] => 0
  | d :: r => uptoBulk d + uptoBulkAll r
def uptoBulkEntries {H : Type} : List (Lit × DataW H) → Nat
  | [] => 0
  | x :: r => uptoBulkEntry x + uptoBulkEntries r
def uptoBulkEntry {H : Type} : Lit × DataW H → Nat
  | (.string bytes, d) => bytes.length + uptoBulk d + 1
  | (_, d) => uptoBulk d + 1
 end
def uptoSmall : (H : Type) → List (DataW H) → Bool := fun _ ds => decide (uptoBulkAll ds ≤ 1048576)
def OpenSpec.upto (s : _root_.Go.ChangeSpec) : _root_.Go.OpenSpec := { _root_.Go.OpenSpec.ofChange s with cond := some uptoSmall }

/-- 'reticentlaw14.PickWeighted', WHERE WHAT IT READS IS OF BULK AT MOST 1048576: true; the input reads as it did. -/
def pickWeightedUptoRow : OpenClaim := { program := "ytmgaaejghfgbnaa", sum := "d2d3c9a1c0531506526ee19704adee4fa6d40c2fd08772ea7d9099ca1b03ade7", func := "reticent/reticentlaw14.PickWeighted", spec := "pickWeighted", unfollowed := true, recurses := true, apart := false, narrowed := true }
def PickWeightedUptoSaid : Prop := pickWeightedUptoRow.holds Try.pinned (OpenSpec.upto pickWeightedSpec)

/-- 'reticentlaw14.PickSigned', WHERE WHAT IT READS IS OF BULK AT MOST 1048576: true; the input reads as it did. -/
def pickSignedUptoRow : OpenClaim := { program := "ytmgaaejghfgbnaa", sum := "d2d3c9a1c0531506526ee19704adee4fa6d40c2fd08772ea7d9099ca1b03ade7", func := "reticent/reticentlaw14.PickSigned", spec := "pickSigned", unfollowed := true, recurses := true, apart := false, narrowed := true }
def PickSignedUptoSaid : Prop := pickSignedUptoRow.holds Try.pinned (OpenSpec.upto pickSignedSpec)

/-- 'reticentlaw14.PickBack', WHERE WHAT IT READS IS OF BULK AT MOST 1048576: true; the input reads as it did. -/
def pickBackUptoRow : OpenClaim := { program := "ytmgaaejghfgbnaa", sum := "d2d3c9a1c0531506526ee19704adee4fa6d40c2fd08772ea7d9099ca1b03ade7", func := "reticent/reticentlaw14.PickBack", spec := "pickBack", unfollowed := true, recurses := true, apart := false, narrowed := true }
def PickBackUptoSaid : Prop := pickBackUptoRow.holds Try.pinned (OpenSpec.upto pickBackSpec)

end Rows
end Go.Proofs.Ytmgaaejghfgbnaa
