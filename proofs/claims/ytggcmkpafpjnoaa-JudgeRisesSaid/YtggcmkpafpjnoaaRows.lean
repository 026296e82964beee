/-
  No cell of these rows narrows 'for every input' (looked for: loops, veiled, ifaces, maps, wideKeys, modest, calm, conditions, laid).
  DERIVED. THE GIVEN ROWS OF THIS SEAT. 3 by the template 'for every input the law returns true; each argument reads behind the call as it read before'; 0 by the template 'total and deterministic' (their statements: YtggcmkpafpjnoaaTotals.lean).
  GIVEN WITH THE SEED: the statements are not yours to turn. If you find one false, say at which input.
  Laid BY PROGRAM, IN A SANDBOX (cutbox-rows.mjs): the forced cells as the released guide's own fill.sh prints them over the translation ba03b03d51316273… (all of the seat's roots in one cut). By AI agents, Wed Nov 11 2026. No macro, syntax, notation, axiom, sorry.
-/
import Derived.Test.YtggcmkpafpjnoaaChecked
import GoSem.Claim
import GoSem.ClaimJoined
import GoSem.ClaimMapViews
import Derived.JoinedTies
import Derived.KernelRfl
namespace Go.Proofs.Ytggcmkpafpjnoaa
/- THE CELL 'sum', in the pinned program and in every row, IS THE sha256 OF THE DUMP (.gsa) THAT YtggcmkpafpjnoaaProg.lean LOADS. Nothing in Lean hashes anything: it is a label: what it is worth is what the hold of that sum in a sandbox is worth. -/
noncomputable def Try.pinned : Pinned := { name := "ytggcmkpafpjnoaa", sum := "ba03b03d51316273bed6a9b2900041c007c66f795ce6e4f81bd4d63be734ff62", checked := Try.checked }
namespace Rows
def none {H : Type} : Left H := { results := [], args := [] }

/-- 'reticentlaw07.JudgeComes': WHATEVER THE INPUT: true; the input reads as it did. -/
def judgeComesSpec : ChangeSpec := { name := "judgeComes", fn := fun _ => fun
  | [d1, d2, d3] => { results := [.lit (.bool true)], args := [d1, d2, d3] }
  | _ => none }
def judgeComesRow : OpenClaim := { program := "ytggcmkpafpjnoaa", sum := "ba03b03d51316273bed6a9b2900041c007c66f795ce6e4f81bd4d63be734ff62", func := "reticent/reticentlaw07.JudgeComes", spec := "judgeComes", unfollowed := true, recurses := true, apart := false }
def JudgeComesSaid : Prop := judgeComesRow.holds Try.pinned (OpenSpec.ofChange judgeComesSpec)

/-- ITS FALSE NEIGHBOUR: 'it returns false'. Refute it at one input. -/
def judgeComesWrong : ChangeSpec := { name := "judgeComes", fn := fun _ => fun
  | [d1, d2, d3] => { results := [.lit (.bool false)], args := [d1, d2, d3] }
  | _ => none }
def JudgeComesWrongFalsely : Prop := judgeComesRow.holds Try.pinned (OpenSpec.ofChange judgeComesWrong)

/-- 'reticentlaw07.JudgeParts': WHATEVER THE INPUT: true; the input reads as it did. -/
def judgePartsSpec : ChangeSpec := { name := "judgeParts", fn := fun _ => fun
  | [d1, d2, d3, d4] => { results := [.lit (.bool true)], args := [d1, d2, d3, d4] }
  | _ => none }
def judgePartsRow : OpenClaim := { program := "ytggcmkpafpjnoaa", sum := "ba03b03d51316273bed6a9b2900041c007c66f795ce6e4f81bd4d63be734ff62", func := "reticent/reticentlaw07.JudgeParts", spec := "judgeParts", unfollowed := true, recurses := true, apart := false }
def JudgePartsSaid : Prop := judgePartsRow.holds Try.pinned (OpenSpec.ofChange judgePartsSpec)

/-- ITS FALSE NEIGHBOUR: 'it returns false'. Refute it at one input. -/
def judgePartsWrong : ChangeSpec := { name := "judgeParts", fn := fun _ => fun
  | [d1, d2, d3, d4] => { results := [.lit (.bool false)], args := [d1, d2, d3, d4] }
  | _ => none }
def JudgePartsWrongFalsely : Prop := judgePartsRow.holds Try.pinned (OpenSpec.ofChange judgePartsWrong)

/-- 'reticentlaw07.JudgeRises': WHATEVER THE INPUT: true; the input reads as it did. -/
def judgeRisesSpec : ChangeSpec := { name := "judgeRises", fn := fun _ => fun
  | [d1, d2, d3, d4, d5] => { results := [.lit (.bool true)], args := [d1, d2, d3, d4, d5] }
  | _ => none }
def judgeRisesRow : OpenClaim := { program := "ytggcmkpafpjnoaa", sum := "ba03b03d51316273bed6a9b2900041c007c66f795ce6e4f81bd4d63be734ff62", func := "reticent/reticentlaw07.JudgeRises", spec := "judgeRises", unfollowed := true, recurses := true, apart := false }
def JudgeRisesSaid : Prop := judgeRisesRow.holds Try.pinned (OpenSpec.ofChange judgeRisesSpec)

/-- ITS FALSE NEIGHBOUR: 'it returns false'. Refute it at one input. -/
def judgeRisesWrong : ChangeSpec := { name := "judgeRises", fn := fun _ => fun
  | [d1, d2, d3, d4, d5] => { results := [.lit (.bool false)], args := [d1, d2, d3, d4, d5] }
  | _ => none }
def JudgeRisesWrongFalsely : Prop := judgeRisesRow.holds Try.pinned (OpenSpec.ofChange judgeRisesWrong)

/- THE SECOND FORM. 'bulk': how many values and letters a reading holds, each counted each time it is reached (what is shared counts as often as it is met; a slice's spare places count too). A statement '..UptoSaid' is the law's where the arguments, and the package variables that the reading takes, are together of bulk at most 1048576: NARROWER than '..Said'. Prove '..Said' where nothing that the law and all that it calls make is longer than what came in: it says more and counts as full. Else prove '..UptoSaid'. A law counts once. -/
mutual
def uptoBulk {H : Type} : DataW H → Nat
  | .lit (.string bytes) => bytes.length + 1
  | .lit _ => 1
  | .nil => 1
  | .ptr d => uptoBulk d + 1
  | .slice elems spare => uptoBulkAll elems + uptoBulkAll spare + 1
  | .agg parts => uptoBulkAll parts + 1
  | .iface _ d => uptoBulk d + 1
  | .map entries => uptoBulkEntries entries + 1
  | .held _ => 1
def uptoBulkAll {H : Type} : List (DataW H) → Nat
  | [] => 0
  | d :: r => uptoBulk d + uptoBulkAll r
def uptoBulkEntries {H : Type} : List (Lit × DataW H) → Nat
  | [] => 0
  | x :: r => uptoBulkEntry x + uptoBulkEntries r
def uptoBulkEntry {H : Type} : Lit × DataW H → Nat
  | (.string bytes, d) => bytes.length + uptoBulk d + 1
  | (_, d) => uptoBulk d + 1
 end
def uptoSmall : (H : Type) → List (DataW H) → Bool := fun _ ds => decide (uptoBulkAll ds ≤ 1048576)
def OpenSpec.upto (s : _root_.Go.ChangeSpec) : _root_.Go.OpenSpec := { _root_.Go.OpenSpec.ofChange s with cond := some uptoSmall }

/-- 'reticentlaw07.JudgeComes', WHERE WHAT IT READS IS OF BULK AT MOST 1048576: true; the input reads as it did. -/
def judgeComesUptoRow : OpenClaim := { program := "ytggcmkpafpjnoaa", sum := "ba03b03d51316273bed6a9b2900041c007c66f795ce6e4f81bd4d63be734ff62", func := "reticent/reticentlaw07.JudgeComes", spec := "judgeComes", unfollowed := true, recurses := true, apart := false, narrowed := true }
def JudgeComesUptoSaid : Prop := judgeComesUptoRow.holds Try.pinned (OpenSpec.upto judgeComesSpec)

/-- 'reticentlaw07.JudgeParts', WHERE WHAT IT READS IS OF BULK AT MOST 1048576: true; the input reads as it did. -/
def judgePartsUptoRow : OpenClaim := { program := "ytggcmkpafpjnoaa", sum := "ba03b03d51316273bed6a9b2900041c007c66f795ce6e4f81bd4d63be734ff62", func := "reticent/reticentlaw07.JudgeParts", spec := "judgeParts", unfollowed := true, recurses := true, apart := false, narrowed := true }
def JudgePartsUptoSaid : Prop := judgePartsUptoRow.holds Try.pinned (OpenSpec.upto judgePartsSpec)

/-- 'reticentlaw07.JudgeRises', WHERE WHAT IT READS IS OF BULK AT MOST 1048576: true; the input reads as it did. -/
def judgeRisesUptoRow : OpenClaim := { program := "ytggcmkpafpjnoaa", sum := "ba03b03d51316273bed6a9b2900041c007c66f795ce6e4f81bd4d63be734ff62", func := "reticent/reticentlaw07.JudgeRises", spec := "judgeRises", unfollowed := true, recurses := true, apart := false, narrowed := true }
def JudgeRisesUptoSaid : Prop := judgeRisesUptoRow.holds Try.pinned (OpenSpec.upto judgeRisesSpec)

end Rows
end Go.Proofs.Ytggcmkpafpjnoaa
