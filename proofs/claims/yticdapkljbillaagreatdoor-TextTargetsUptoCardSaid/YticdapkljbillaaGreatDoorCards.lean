/-
  DERIVED. GIVEN WITH THE SEED: THE CARDS: each row of YticdapkljbillaaGreatDoorRows.lean that lists a variable, with what it lists TIED to the program's text (the seventh form; the later family's looks); each row that meets fmt, with fmt's text TOLD by the authors' own Lean function (tested against real Go, not proved from fmt's source: count such statements apart). THE CARD IS WHAT COUNTS. Prove the row's statement (the work); the ties are given (YticdapkljbillaaGreatDoorTie.lean); close each card by the builder's one call (the guide's Derived/Test/ToyasCard.lean, 'card_holds'). Laid BY PROGRAM, IN A SANDBOX (cutbox-door.mjs). By AI agents, Wed Nov 11 2026. No macro, syntax, notation, axiom, sorry.
-/
import Derived.Test.YticdapkljbillaaGreatDoorRows
import GoSem.ClaimSeven
namespace Go.Proofs.YticdapkljbillaaGreatDoor
namespace Rows

/-- THE TIED CARD OF 'florlaw1.TextTargets'. -/
def textTargetsCard : Claim7 := { stood := { row := textTargetsRow, standIns := [], harness := (true, "3595199e7c1b369b424588fd46389ed79dd1324ce1f982cc45238670720d9a8e"), looks := true }, kinds := [], alts := [], laidByText := true, laidKinds := [.data, .data, .data, .sentinel, .sentinel], laidTests := true, laidLooks := .later }
def TextTargetsCardSaid : Prop := Claim7.holds Tryz.pinned (.plain (OpenSpec.ofChange textTargetsSpec)) textTargetsCard

/-- THE SECOND FORM's CARD OF 'florlaw1.TextTargets'. -/
def textTargetsUptoCard : Claim7 := { stood := { row := textTargetsUptoRow, standIns := [], harness := (true, "3595199e7c1b369b424588fd46389ed79dd1324ce1f982cc45238670720d9a8e"), looks := true }, kinds := [], alts := [], laidByText := true, laidKinds := [.data, .data, .data, .sentinel, .sentinel], laidTests := true, laidLooks := .later }
def TextTargetsUptoCardSaid : Prop := Claim7.holds Tryz.pinned (.plain (OpenSpec.upto textTargetsSpec)) textTargetsUptoCard
end Rows
end Go.Proofs.YticdapkljbillaaGreatDoor
