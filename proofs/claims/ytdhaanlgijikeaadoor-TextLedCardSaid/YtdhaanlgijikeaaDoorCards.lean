/-
  DERIVED. GIVEN WITH THE SEED: THE CARDS: each row of YtdhaanlgijikeaaDoorRows.lean that lists a variable, with what it lists TIED to the program's text (the seventh form; the later family's looks); each row that meets fmt, with fmt's text TOLD by the authors' own Lean function (tested against real Go, not proved from fmt's source: count such statements apart). THE CARD IS WHAT COUNTS. Prove the row's statement (the work); the ties are given (YtdhaanlgijikeaaDoorTie.lean); close each card by the builder's one call (the guide's Derived/Test/ToyasCard.lean, 'card_holds'). Laid BY PROGRAM, IN A SANDBOX (cutbox-door.mjs). By AI agents, Wed Nov 11 2026. No macro, syntax, notation, axiom, sorry.
-/
import Derived.Test.YtdhaanlgijikeaaDoorRows
import GoSem.ClaimSeven
namespace Go.Proofs.YtdhaanlgijikeaaDoor
namespace Rows

/-- THE TIED CARD OF 'florkeep1.TextLed'. -/
def textLedCard : Claim7 := { stood := { row := textLedRow, standIns := [], harness := (true, "6267b0682b17c3faa25aba5dc37bb37064a6a74187b6b20e3235bfc77e0eae96"), looks := true }, kinds := [], alts := [], laidByText := true, laidKinds := [.data, .data, .data, .sentinel, .sentinel], laidTests := true, laidLooks := .later }
def TextLedCardSaid : Prop := Claim7.holds Tryd.pinned (.plain (OpenSpec.ofChange textLedSpec)) textLedCard

/-- THE SECOND FORM's CARD OF 'florkeep1.TextLed'. -/
def textLedUptoCard : Claim7 := { stood := { row := textLedUptoRow, standIns := [], harness := (true, "6267b0682b17c3faa25aba5dc37bb37064a6a74187b6b20e3235bfc77e0eae96"), looks := true }, kinds := [], alts := [], laidByText := true, laidKinds := [.data, .data, .data, .sentinel, .sentinel], laidTests := true, laidLooks := .later }
def TextLedUptoCardSaid : Prop := Claim7.holds Tryd.pinned (.plain (OpenSpec.upto textLedSpec)) textLedUptoCard
end Rows
end Go.Proofs.YtdhaanlgijikeaaDoor
