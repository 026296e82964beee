/-
  NARROWER THAN 'FOR EVERY INPUT', by the rows' own cells (each row's printed sentence says how): StepOne: laid · StepStays: laid · StepRules: laid · RunStates: laid · RunParts: laid.
  DERIVED. THE GIVEN ROWS OF THIS SEAT. 5 by the template 'for every input the law returns true; each argument reads behind the call as it read before'; 0 by the template 'total and deterministic' (their statements: YtjobifclmcdjcaaGreatDoorTotals.lean).
  GIVEN WITH THE SEED: the statements are not yours to turn. If you find one false, say at which input.
  Laid BY PROGRAM, IN A SANDBOX (cutbox-rows.mjs): the forced cells as the released guide's own fill.sh prints them over the translation 46e38f5072a0ee1e… (all of the seat's roots in one cut). By AI agents, Wed Nov 11 2026. No macro, syntax, notation, axiom, sorry.
-/
import Derived.Test.YtjobifclmcdjcaaGreatDoorChecked
import GoSem.Claim
import GoSem.ClaimJoined
import GoSem.ClaimMapViews
import Derived.JoinedTies
import Derived.KernelRfl
namespace Go.Proofs.YtjobifclmcdjcaaGreatDoor
/- THE CELL 'sum', in the pinned program and in every row, IS THE sha256 OF THE DUMP (.gsa) THAT YtjobifclmcdjcaaGreatDoorProg.lean LOADS. Nothing in Lean hashes anything: it is a label: what it is worth is what the hold of that sum in a sandbox is worth. -/
noncomputable def Tryz.pinned : Pinned := { name := "ytjobifclmcdjcaagreatdoor", sum := "46e38f5072a0ee1ebeb39b1b6ceb58957014aa865f8d3e10542243ca878a60b2", checked := Tryz.checked }
namespace Rows
def none {H : Type} : Left H := { results := [], args := [] }

/- WHAT THE LISTED PACKAGE-LEVEL VARIABLES READ AS WHEN THE CALL BEGINS. Each datum BY PROGRAM (the guide's laid-datum.mjs) off the statement by which the dump's own 'gosem.cut.vars' lays the variable. In a bare row this is a premise. The card (YtjobifclmcdjcaaGreatDoorCards.lean) ties it to the program's text. -/
def laid_reticent_table_instructions {H : Type} : DataW H := .agg [.agg [.lit (.string [110, 111, 111, 112]), .lit (.int .i64 0)], .agg [.lit (.string [112, 117, 115, 104]), .lit (.int .i64 1)], .agg [.lit (.string [112, 111, 112]), .lit (.int .i64 1)], .agg [.lit (.string [97, 100, 100]), .lit (.int .i64 2)], .agg [.lit (.string [115, 117, 98]), .lit (.int .i64 2)], .agg [.lit (.string [108, 111, 97, 100]), .lit (.int .i64 2)], .agg [.lit (.string [115, 116, 111, 114, 101]), .lit (.int .i64 3)], .agg [.lit (.string [106, 117, 109, 112]), .lit (.int .i64 1)], .agg [.lit (.string [98, 110, 122]), .lit (.int .i64 1)], .agg [.lit (.string [99, 97, 108, 108]), .lit (.int .i64 1)], .agg [.lit (.string [114, 101, 116, 117, 114, 110]), .lit (.int .i64 2)], .agg [.lit (.string [111, 117, 116, 112, 117, 116]), .lit (.int .i64 1)], .agg [.lit (.string [104, 97, 108, 116]), .lit (.int .i64 0)]]

/-- 'reticentlaw10.StepOne': WHATEVER THE INPUT: true; the input reads as it did. -/
def stepOneSpec : ChangeSpec := { name := "stepOne", fn := fun _ => fun
  | [d1, d2, d3] => { results := [.lit (.bool true)], args := [d1, d2, d3] }
  | _ => none }
def stepOneRow : OpenClaim := { program := "ytjobifclmcdjcaagreatdoor", sum := "46e38f5072a0ee1ebeb39b1b6ceb58957014aa865f8d3e10542243ca878a60b2", func := "reticent/reticentlaw10.StepOne", spec := "stepOne", inPlace := ["internal/bytealg.IndexByteString"], unfollowed := true, recurses := true, named := ["reticent/table.instructions"], apart := false, laid := [("reticent/table.instructions", laid_reticent_table_instructions)] }
def StepOneSaid : Prop := stepOneRow.holds Tryz.pinned (OpenSpec.ofChange stepOneSpec)

/-- ITS FALSE NEIGHBOUR: 'it returns false'. Refute it at one input. -/
def stepOneWrong : ChangeSpec := { name := "stepOne", fn := fun _ => fun
  | [d1, d2, d3] => { results := [.lit (.bool false)], args := [d1, d2, d3] }
  | _ => none }
def StepOneWrongFalsely : Prop := stepOneRow.holds Tryz.pinned (OpenSpec.ofChange stepOneWrong)

/-- 'reticentlaw10.StepStays': WHATEVER THE INPUT: true; the input reads as it did. -/
def stepStaysSpec : ChangeSpec := { name := "stepStays", fn := fun _ => fun
  | [d1, d2, d3] => { results := [.lit (.bool true)], args := [d1, d2, d3] }
  | _ => none }
def stepStaysRow : OpenClaim := { program := "ytjobifclmcdjcaagreatdoor", sum := "46e38f5072a0ee1ebeb39b1b6ceb58957014aa865f8d3e10542243ca878a60b2", func := "reticent/reticentlaw10.StepStays", spec := "stepStays", inPlace := ["internal/bytealg.IndexByteString"], unfollowed := true, recurses := true, named := ["reticent/table.instructions"], apart := false, laid := [("reticent/table.instructions", laid_reticent_table_instructions)] }
def StepStaysSaid : Prop := stepStaysRow.holds Tryz.pinned (OpenSpec.ofChange stepStaysSpec)

/-- ITS FALSE NEIGHBOUR: 'it returns false'. Refute it at one input. -/
def stepStaysWrong : ChangeSpec := { name := "stepStays", fn := fun _ => fun
  | [d1, d2, d3] => { results := [.lit (.bool false)], args := [d1, d2, d3] }
  | _ => none }
def StepStaysWrongFalsely : Prop := stepStaysRow.holds Tryz.pinned (OpenSpec.ofChange stepStaysWrong)

/-- 'reticentlaw10.StepRules': WHATEVER THE INPUT: true; the input reads as it did. -/
def stepRulesSpec : ChangeSpec := { name := "stepRules", fn := fun _ => fun
  | [d1, d2, d3, d4] => { results := [.lit (.bool true)], args := [d1, d2, d3, d4] }
  | _ => none }
def stepRulesRow : OpenClaim := { program := "ytjobifclmcdjcaagreatdoor", sum := "46e38f5072a0ee1ebeb39b1b6ceb58957014aa865f8d3e10542243ca878a60b2", func := "reticent/reticentlaw10.StepRules", spec := "stepRules", inPlace := ["internal/bytealg.IndexByteString"], unfollowed := true, recurses := true, named := ["reticent/table.instructions"], apart := false, laid := [("reticent/table.instructions", laid_reticent_table_instructions)] }
def StepRulesSaid : Prop := stepRulesRow.holds Tryz.pinned (OpenSpec.ofChange stepRulesSpec)

/-- ITS FALSE NEIGHBOUR: 'it returns false'. Refute it at one input. -/
def stepRulesWrong : ChangeSpec := { name := "stepRules", fn := fun _ => fun
  | [d1, d2, d3, d4] => { results := [.lit (.bool false)], args := [d1, d2, d3, d4] }
  | _ => none }
def StepRulesWrongFalsely : Prop := stepRulesRow.holds Tryz.pinned (OpenSpec.ofChange stepRulesWrong)

/-- 'reticentlaw11.RunStates': WHATEVER THE INPUT: true; the input reads as it did. -/
def runStatesSpec : ChangeSpec := { name := "runStates", fn := fun _ => fun
  | [d1, d2, d3, d4] => { results := [.lit (.bool true)], args := [d1, d2, d3, d4] }
  | _ => none }
def runStatesRow : OpenClaim := { program := "ytjobifclmcdjcaagreatdoor", sum := "46e38f5072a0ee1ebeb39b1b6ceb58957014aa865f8d3e10542243ca878a60b2", func := "reticent/reticentlaw11.RunStates", spec := "runStates", inPlace := ["internal/bytealg.IndexByteString"], unfollowed := true, recurses := true, named := ["reticent/table.instructions"], apart := false, laid := [("reticent/table.instructions", laid_reticent_table_instructions)] }
def RunStatesSaid : Prop := runStatesRow.holds Tryz.pinned (OpenSpec.ofChange runStatesSpec)

/-- ITS FALSE NEIGHBOUR: 'it returns false'. Refute it at one input. -/
def runStatesWrong : ChangeSpec := { name := "runStates", fn := fun _ => fun
  | [d1, d2, d3, d4] => { results := [.lit (.bool false)], args := [d1, d2, d3, d4] }
  | _ => none }
def RunStatesWrongFalsely : Prop := runStatesRow.holds Tryz.pinned (OpenSpec.ofChange runStatesWrong)

/-- 'reticentlaw11.RunParts': WHATEVER THE INPUT: true; the input reads as it did. -/
def runPartsSpec : ChangeSpec := { name := "runParts", fn := fun _ => fun
  | [d1, d2, d3, d4, d5] => { results := [.lit (.bool true)], args := [d1, d2, d3, d4, d5] }
  | _ => none }
def runPartsRow : OpenClaim := { program := "ytjobifclmcdjcaagreatdoor", sum := "46e38f5072a0ee1ebeb39b1b6ceb58957014aa865f8d3e10542243ca878a60b2", func := "reticent/reticentlaw11.RunParts", spec := "runParts", inPlace := ["internal/bytealg.IndexByteString"], unfollowed := true, recurses := true, named := ["reticent/table.instructions"], apart := false, laid := [("reticent/table.instructions", laid_reticent_table_instructions)] }
def RunPartsSaid : Prop := runPartsRow.holds Tryz.pinned (OpenSpec.ofChange runPartsSpec)

/-- ITS FALSE NEIGHBOUR: 'it returns false'. Refute it at one input. -/
def runPartsWrong : ChangeSpec := { name := "runParts", fn := fun _ => fun
  | [d1, d2, d3, d4, d5] => { results := [.lit (.bool false)], args := [d1, d2, d3, d4, d5] }
  | _ => none }
def RunPartsWrongFalsely : Prop := runPartsRow.holds Tryz.pinned (OpenSpec.ofChange runPartsWrong)

/- THE SECOND FORM. 'bulk': how many values and letters a reading holds, each counted each time it is reached (what is shared counts as often as it is met; a slice's spare places count too). A statement '..UptoSaid' is the law's where the arguments, and the package variables that the reading takes, are together of bulk at most 1048576: NARROWER than '..Said'. Prove '..Said' where nothing that the law and all that it calls make is longer than what came in: it says more and counts as full. Else prove '..UptoSaid'. A law counts once. -/
mutual
def uptoBulk {H : Type} : DataW H → Nat
  | .lit (.string bytes) => bytes.length + 1
  | .lit _ => 1
  | .nil => 1
  | .ptr d => uptoBulk d + 1
  | .slice elems spare => uptoBulkAll elems + uptoBulkAll spare + 1
  | .agg parts => uptoBulkAll parts + 1
  | .iface _ d => uptoBulk d + 1
  | .map entries => uptoBulkEntries entries + 1
  | .held _ => 1
def uptoBulkAll {H : Type} : List (DataW H) → Nat
  | [] => 0
  | d :: r => uptoBulk d + uptoBulkAll r
def uptoBulkEntries {H : Type} : List (Lit × DataW H) → Nat
  | [] => 0
  | x :: r => uptoBulkEntry x + uptoBulkEntries r
def uptoBulkEntry {H : Type} : Lit × DataW H → Nat
  | (.string bytes, d) => bytes.length + uptoBulk d + 1
  | (_, d) => uptoBulk d + 1
 end
def uptoSmall : (H : Type) → List (DataW H) → Bool := fun _ ds => decide (uptoBulkAll ds ≤ 1048576)
def OpenSpec.upto (s : _root_.Go.ChangeSpec) : _root_.Go.OpenSpec := { _root_.Go.OpenSpec.ofChange s with cond := some uptoSmall }

/-- 'reticentlaw10.StepOne', WHERE WHAT IT READS IS OF BULK AT MOST 1048576: true; the input reads as it did. -/
def stepOneUptoRow : OpenClaim := { program := "ytjobifclmcdjcaagreatdoor", sum := "46e38f5072a0ee1ebeb39b1b6ceb58957014aa865f8d3e10542243ca878a60b2", func := "reticent/reticentlaw10.StepOne", spec := "stepOne", inPlace := ["internal/bytealg.IndexByteString"], unfollowed := true, recurses := true, named := ["reticent/table.instructions"], apart := false, laid := [("reticent/table.instructions", laid_reticent_table_instructions)], narrowed := true }
def StepOneUptoSaid : Prop := stepOneUptoRow.holds Tryz.pinned (OpenSpec.upto stepOneSpec)

/-- 'reticentlaw10.StepStays', WHERE WHAT IT READS IS OF BULK AT MOST 1048576: true; the input reads as it did. -/
def stepStaysUptoRow : OpenClaim := { program := "ytjobifclmcdjcaagreatdoor", sum := "46e38f5072a0ee1ebeb39b1b6ceb58957014aa865f8d3e10542243ca878a60b2", func := "reticent/reticentlaw10.StepStays", spec := "stepStays", inPlace := ["internal/bytealg.IndexByteString"], unfollowed := true, recurses := true, named := ["reticent/table.instructions"], apart := false, laid := [("reticent/table.instructions", laid_reticent_table_instructions)], narrowed := true }
def StepStaysUptoSaid : Prop := stepStaysUptoRow.holds Tryz.pinned (OpenSpec.upto stepStaysSpec)

/-- 'reticentlaw10.StepRules', WHERE WHAT IT READS IS OF BULK AT MOST 1048576: true; the input reads as it did. -/
def stepRulesUptoRow : OpenClaim := { program := "ytjobifclmcdjcaagreatdoor", sum := "46e38f5072a0ee1ebeb39b1b6ceb58957014aa865f8d3e10542243ca878a60b2", func := "reticent/reticentlaw10.StepRules", spec := "stepRules", inPlace := ["internal/bytealg.IndexByteString"], unfollowed := true, recurses := true, named := ["reticent/table.instructions"], apart := false, laid := [("reticent/table.instructions", laid_reticent_table_instructions)], narrowed := true }
def StepRulesUptoSaid : Prop := stepRulesUptoRow.holds Tryz.pinned (OpenSpec.upto stepRulesSpec)

/-- 'reticentlaw11.RunStates', WHERE WHAT IT READS IS OF BULK AT MOST 1048576: true; the input reads as it did. -/
def runStatesUptoRow : OpenClaim := { program := "ytjobifclmcdjcaagreatdoor", sum := "46e38f5072a0ee1ebeb39b1b6ceb58957014aa865f8d3e10542243ca878a60b2", func := "reticent/reticentlaw11.RunStates", spec := "runStates", inPlace := ["internal/bytealg.IndexByteString"], unfollowed := true, recurses := true, named := ["reticent/table.instructions"], apart := false, laid := [("reticent/table.instructions", laid_reticent_table_instructions)], narrowed := true }
def RunStatesUptoSaid : Prop := runStatesUptoRow.holds Tryz.pinned (OpenSpec.upto runStatesSpec)

/-- 'reticentlaw11.RunParts', WHERE WHAT IT READS IS OF BULK AT MOST 1048576: true; the input reads as it did. -/
def runPartsUptoRow : OpenClaim := { program := "ytjobifclmcdjcaagreatdoor", sum := "46e38f5072a0ee1ebeb39b1b6ceb58957014aa865f8d3e10542243ca878a60b2", func := "reticent/reticentlaw11.RunParts", spec := "runParts", inPlace := ["internal/bytealg.IndexByteString"], unfollowed := true, recurses := true, named := ["reticent/table.instructions"], apart := false, laid := [("reticent/table.instructions", laid_reticent_table_instructions)], narrowed := true }
def RunPartsUptoSaid : Prop := runPartsUptoRow.holds Tryz.pinned (OpenSpec.upto runPartsSpec)

end Rows
end Go.Proofs.YtjobifclmcdjcaaGreatDoor
