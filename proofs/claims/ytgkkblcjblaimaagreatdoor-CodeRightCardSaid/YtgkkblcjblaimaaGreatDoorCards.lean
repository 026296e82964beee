/-
  DERIVED. GIVEN WITH THE SEED: THE CARDS: each row of YtgkkblcjblaimaaGreatDoorRows.lean that lists a variable, with what it lists TIED to the program's text (the seventh form; the later family's looks); each row that meets fmt, with fmt's text TOLD by the authors' own Lean function (tested against real Go, not proved from fmt's source: count such statements apart). THE CARD IS WHAT COUNTS. Prove the row's statement (the work); the ties are given (YtgkkblcjblaimaaGreatDoorTie.lean); close each card by the builder's one call (the guide's Derived/Test/ToyasCard.lean, 'card_holds'). Laid BY PROGRAM, IN A SANDBOX (cutbox-door.mjs). By AI agents, Wed Nov 11 2026. No macro, syntax, notation, axiom, sorry.
-/
import Derived.Test.YtgkkblcjblaimaaGreatDoorRows
import GoSem.ClaimSeven
namespace Go.Proofs.YtgkkblcjblaimaaGreatDoor
namespace Rows

/-- THE TIED CARD OF 'reticentlaw08.CodeRight'. -/
def codeRightCard : Claim7 := { stood := { row := codeRightRow, standIns := [], harness := (true, "3fb0af8b2840242a43b57f4fe308565dff7a8c78f9f6955ea7f413812fa3f33a"), looks := false }, kinds := [], alts := [], laidByText := true, laidKinds := [.data, .data, .data, .data], laidTests := true, laidLooks := .later }
def CodeRightCardSaid : Prop := Claim7.holds Tryz.pinned (.plain (OpenSpec.ofChange codeRightSpec)) codeRightCard

/-- THE SECOND FORM's CARD OF 'reticentlaw08.CodeRight'. -/
def codeRightUptoCard : Claim7 := { stood := { row := codeRightUptoRow, standIns := [], harness := (true, "3fb0af8b2840242a43b57f4fe308565dff7a8c78f9f6955ea7f413812fa3f33a"), looks := false }, kinds := [], alts := [], laidByText := true, laidKinds := [.data, .data, .data, .data], laidTests := true, laidLooks := .later }
def CodeRightUptoCardSaid : Prop := Claim7.holds Tryz.pinned (.plain (OpenSpec.upto codeRightSpec)) codeRightUptoCard
end Rows
end Go.Proofs.YtgkkblcjblaimaaGreatDoor
