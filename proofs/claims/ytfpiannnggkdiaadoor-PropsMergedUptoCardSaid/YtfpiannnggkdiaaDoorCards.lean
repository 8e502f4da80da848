/-
  DERIVED. GIVEN WITH THE SEED: THE CARDS: each row of YtfpiannnggkdiaaDoorRows.lean that lists a variable, with what it lists TIED to the program's text (the seventh form; the later family's looks); each row that meets fmt, with fmt's text TOLD by the authors' own Lean function (tested against real Go, not proved from fmt's source: count such statements apart). THE CARD IS WHAT COUNTS. Prove the row's statement (the work); the ties are given (YtfpiannnggkdiaaDoorTie.lean); close each card by the builder's one call (the guide's Derived/Test/ToyasCard.lean, 'card_holds'). Laid BY PROGRAM, IN A SANDBOX (cutbox-door.mjs). By AI agents, Wed Nov 11 2026. No macro, syntax, notation, axiom, sorry.
-/
import Derived.Test.YtfpiannnggkdiaaDoorRows
import GoSem.ClaimSeven
namespace Go.Proofs.YtfpiannnggkdiaaDoor
namespace Rows

/-- THE TIED CARD OF 'florlaw2.DayGrids'. -/
def dayGridsCard : Claim7 := { stood := { row := dayGridsRow, standIns := [], harness := (true, "e238c6a24aa90b6c05b517eceb9dc564b9152decfff24681f4eacdbb61215532"), looks := true }, kinds := [], alts := [], laidByText := true, laidKinds := [.data, .data], laidTests := true, laidLooks := .later }
def DayGridsCardSaid : Prop := Claim7.holds Tryd.pinned (.plain (OpenSpec.ofChange dayGridsSpec)) dayGridsCard

/-- THE TIED CARD OF 'florkeep2.PropsMerged'. -/
def propsMergedCard : Claim7 := { stood := { row := propsMergedRow, standIns := [], harness := (true, "e238c6a24aa90b6c05b517eceb9dc564b9152decfff24681f4eacdbb61215532"), looks := true }, kinds := [], alts := [], laidByText := true, laidKinds := [.data, .data, .pinned], laidTests := true, laidLooks := .later }
def PropsMergedCardSaid : Prop := Claim7.holds Tryd.pinned (.plain (OpenSpec.ofChange propsMergedSpec)) propsMergedCard

/-- THE SECOND FORM's CARD OF 'florlaw2.DayGrids'. -/
def dayGridsUptoCard : Claim7 := { stood := { row := dayGridsUptoRow, standIns := [], harness := (true, "e238c6a24aa90b6c05b517eceb9dc564b9152decfff24681f4eacdbb61215532"), looks := true }, kinds := [], alts := [], laidByText := true, laidKinds := [.data, .data], laidTests := true, laidLooks := .later }
def DayGridsUptoCardSaid : Prop := Claim7.holds Tryd.pinned (.plain (OpenSpec.upto dayGridsSpec)) dayGridsUptoCard

/-- THE SECOND FORM's CARD OF 'florkeep2.PropsMerged'. -/
def propsMergedUptoCard : Claim7 := { stood := { row := propsMergedUptoRow, standIns := [], harness := (true, "e238c6a24aa90b6c05b517eceb9dc564b9152decfff24681f4eacdbb61215532"), looks := true }, kinds := [], alts := [], laidByText := true, laidKinds := [.data, .data, .pinned], laidTests := true, laidLooks := .later }
def PropsMergedUptoCardSaid : Prop := Claim7.holds Tryd.pinned (.plain (OpenSpec.upto propsMergedSpec)) propsMergedUptoCard
end Rows
end Go.Proofs.YtfpiannnggkdiaaDoor
