/-
  DERIVED. GIVEN WITH THE SEED: THE CARDS: each row of YtefimimcfkdoiaaGreatDoorRows.lean that lists a variable, with what it lists TIED to the program's text (the seventh form; the later family's looks); each row that meets fmt, with fmt's text TOLD by the authors' own Lean function (tested against real Go, not proved from fmt's source: count such statements apart). THE CARD IS WHAT COUNTS. Prove the row's statement (the work); the ties are given (YtefimimcfkdoiaaGreatDoorTie.lean); close each card by the builder's one call (the guide's Derived/Test/ToyasCard.lean, 'card_holds'). Laid BY PROGRAM, IN A SANDBOX (cutbox-door.mjs). By AI agents, Wed Nov 11 2026. No macro, syntax, notation, axiom, sorry.
-/
import Derived.Test.YtefimimcfkdoiaaGreatDoorRows
import GoSem.ClaimSeven
namespace Go.Proofs.YtefimimcfkdoiaaGreatDoor
namespace Rows

/-- THE TIED CARD OF 'reticentlaw10.StepOne'. -/
def stepOneCard : Claim7 := { stood := { row := stepOneRow, standIns := [], harness := (true, "64b09a660c5014bec47da52e4a53e3036ca76d4faed89d5eec7d2d45f8694412"), looks := true }, kinds := [], alts := [], laidByText := true, laidKinds := [.data], laidTests := true, laidLooks := .later }
def StepOneCardSaid : Prop := Claim7.holds Tryz.pinned (.plain (OpenSpec.ofChange stepOneSpec)) stepOneCard

/-- THE TIED CARD OF 'reticentlaw10.StepStays'. -/
def stepStaysCard : Claim7 := { stood := { row := stepStaysRow, standIns := [], harness := (true, "64b09a660c5014bec47da52e4a53e3036ca76d4faed89d5eec7d2d45f8694412"), looks := true }, kinds := [], alts := [], laidByText := true, laidKinds := [.data], laidTests := true, laidLooks := .later }
def StepStaysCardSaid : Prop := Claim7.holds Tryz.pinned (.plain (OpenSpec.ofChange stepStaysSpec)) stepStaysCard

/-- THE TIED CARD OF 'reticentlaw10.StepRules'. -/
def stepRulesCard : Claim7 := { stood := { row := stepRulesRow, standIns := [], harness := (true, "64b09a660c5014bec47da52e4a53e3036ca76d4faed89d5eec7d2d45f8694412"), looks := true }, kinds := [], alts := [], laidByText := true, laidKinds := [.data], laidTests := true, laidLooks := .later }
def StepRulesCardSaid : Prop := Claim7.holds Tryz.pinned (.plain (OpenSpec.ofChange stepRulesSpec)) stepRulesCard

/-- THE SECOND FORM's CARD OF 'reticentlaw10.StepOne'. -/
def stepOneUptoCard : Claim7 := { stood := { row := stepOneUptoRow, standIns := [], harness := (true, "64b09a660c5014bec47da52e4a53e3036ca76d4faed89d5eec7d2d45f8694412"), looks := true }, kinds := [], alts := [], laidByText := true, laidKinds := [.data], laidTests := true, laidLooks := .later }
def StepOneUptoCardSaid : Prop := Claim7.holds Tryz.pinned (.plain (OpenSpec.upto stepOneSpec)) stepOneUptoCard

/-- THE SECOND FORM's CARD OF 'reticentlaw10.StepStays'. -/
def stepStaysUptoCard : Claim7 := { stood := { row := stepStaysUptoRow, standIns := [], harness := (true, "64b09a660c5014bec47da52e4a53e3036ca76d4faed89d5eec7d2d45f8694412"), looks := true }, kinds := [], alts := [], laidByText := true, laidKinds := [.data], laidTests := true, laidLooks := .later }
def StepStaysUptoCardSaid : Prop := Claim7.holds Tryz.pinned (.plain (OpenSpec.upto stepStaysSpec)) stepStaysUptoCard

/-- THE SECOND FORM's CARD OF 'reticentlaw10.StepRules'. -/
def stepRulesUptoCard : Claim7 := { stood := { row := stepRulesUptoRow, standIns := [], harness := (true, "64b09a660c5014bec47da52e4a53e3036ca76d4faed89d5eec7d2d45f8694412"), looks := true }, kinds := [], alts := [], laidByText := true, laidKinds := [.data], laidTests := true, laidLooks := .later }
def StepRulesUptoCardSaid : Prop := Claim7.holds Tryz.pinned (.plain (OpenSpec.upto stepRulesSpec)) stepRulesUptoCard
end Rows
end Go.Proofs.YtefimimcfkdoiaaGreatDoor
