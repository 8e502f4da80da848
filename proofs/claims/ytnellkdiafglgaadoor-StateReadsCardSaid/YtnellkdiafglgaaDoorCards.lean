/-
  DERIVED. GIVEN WITH THE SEED: THE CARDS: each row of YtnellkdiafglgaaDoorRows.lean that lists a variable, with what it lists TIED to the program's text (the seventh form; the later family's looks); each row that meets fmt, with fmt's text TOLD by the authors' own Lean function (tested against real Go, not proved from fmt's source: count such statements apart). THE CARD IS WHAT COUNTS. Prove the row's statement (the work); the ties are given (YtnellkdiafglgaaDoorTie.lean); close each card by the builder's one call (the guide's Derived/Test/ToyasCard.lean, 'card_holds'). Laid BY PROGRAM, IN A SANDBOX (cutbox-door.mjs). By AI agents, Wed Nov 11 2026. No macro, syntax, notation, axiom, sorry.
-/
import Derived.Test.YtnellkdiafglgaaDoorRows
import GoSem.ClaimSeven
namespace Go.Proofs.YtnellkdiafglgaaDoor
namespace Rows

/-- THE TIED CARD OF 'florlaw2.StateChecks'. -/
def stateChecksCard : Claim7 := { stood := { row := stateChecksRow, standIns := [], harness := (true, "646878e5992ad0540c22e819e8af21575422b94016e3e147405d3c11f36b3abb"), looks := true }, kinds := [], alts := [], laidByText := true, laidKinds := [.data, .data, .data], laidTests := true, laidLooks := .later }
def StateChecksCardSaid : Prop := Claim7.holds Tryd.pinned (.plain (OpenSpec.ofChange stateChecksSpec)) stateChecksCard

/-- THE TIED CARD OF 'florlaw2.StateReads'. -/
def stateReadsCard : Claim7 := { stood := { row := stateReadsRow, standIns := [], harness := (true, "646878e5992ad0540c22e819e8af21575422b94016e3e147405d3c11f36b3abb"), looks := true }, kinds := [], alts := [], laidByText := true, laidKinds := [.data, .data, .data, .data, .sentinel, .sentinel, .pinned], laidTests := true, laidLooks := .later }
def StateReadsCardSaid : Prop := Claim7.holds Tryd.pinned (.plain (OpenSpec.ofChange stateReadsSpec)) stateReadsCard

/-- THE TIED CARD OF 'florlaw2.StateGrades'. -/
def stateGradesCard : Claim7 := { stood := { row := stateGradesRow, standIns := [], harness := (true, "646878e5992ad0540c22e819e8af21575422b94016e3e147405d3c11f36b3abb"), looks := true }, kinds := [], alts := [], laidByText := true, laidKinds := [.data, .data], laidTests := true, laidLooks := .later }
def StateGradesCardSaid : Prop := Claim7.holds Tryd.pinned (.plain (OpenSpec.ofChange stateGradesSpec)) stateGradesCard

/-- THE TIED CARD OF 'florlaw2.StateReplays'. -/
def stateReplaysCard : Claim7 := { stood := { row := stateReplaysRow, standIns := [], harness := (true, "646878e5992ad0540c22e819e8af21575422b94016e3e147405d3c11f36b3abb"), looks := true }, kinds := [], alts := [], laidByText := true, laidKinds := [.data, .data], laidTests := true, laidLooks := .later }
def StateReplaysCardSaid : Prop := Claim7.holds Tryd.pinned (.plain (OpenSpec.ofChange stateReplaysSpec)) stateReplaysCard

/-- THE TIED CARD OF 'florlaw2.CardGrades'. -/
def cardGradesCard : Claim7 := { stood := { row := cardGradesRow, standIns := [], harness := (true, "646878e5992ad0540c22e819e8af21575422b94016e3e147405d3c11f36b3abb"), looks := true }, kinds := [], alts := [], laidByText := true, laidKinds := [.data, .data], laidTests := true, laidLooks := .later }
def CardGradesCardSaid : Prop := Claim7.holds Tryd.pinned (.plain (OpenSpec.ofChange cardGradesSpec)) cardGradesCard

/-- THE TIED CARD OF 'florkeep2.StateRound'. -/
def stateRoundCard : Claim7 := { stood := { row := stateRoundRow, standIns := [], harness := (true, "646878e5992ad0540c22e819e8af21575422b94016e3e147405d3c11f36b3abb"), looks := true }, kinds := [], alts := [], laidByText := true, laidKinds := [.data, .data, .data, .data, .sentinel, .sentinel, .pinned], laidTests := true, laidLooks := .later }
def StateRoundCardSaid : Prop := Claim7.holds Tryd.pinned (.plain (OpenSpec.ofChange stateRoundSpec)) stateRoundCard

/-- THE TIED CARD OF 'flortop.TopCards'. -/
def topCardsCard : Claim7 := { stood := { row := topCardsRow, standIns := [], harness := (true, "646878e5992ad0540c22e819e8af21575422b94016e3e147405d3c11f36b3abb"), looks := true }, kinds := [], alts := [], laidByText := true, laidKinds := [.data, .data], laidTests := true, laidLooks := .later }
def TopCardsCardSaid : Prop := Claim7.holds Tryd.pinned (.plain (OpenSpec.ofChange topCardsSpec)) topCardsCard

/-- THE SECOND FORM's CARD OF 'florlaw2.StateChecks'. -/
def stateChecksUptoCard : Claim7 := { stood := { row := stateChecksUptoRow, standIns := [], harness := (true, "646878e5992ad0540c22e819e8af21575422b94016e3e147405d3c11f36b3abb"), looks := true }, kinds := [], alts := [], laidByText := true, laidKinds := [.data, .data, .data], laidTests := true, laidLooks := .later }
def StateChecksUptoCardSaid : Prop := Claim7.holds Tryd.pinned (.plain (OpenSpec.upto stateChecksSpec)) stateChecksUptoCard

/-- THE SECOND FORM's CARD OF 'florlaw2.StateReads'. -/
def stateReadsUptoCard : Claim7 := { stood := { row := stateReadsUptoRow, standIns := [], harness := (true, "646878e5992ad0540c22e819e8af21575422b94016e3e147405d3c11f36b3abb"), looks := true }, kinds := [], alts := [], laidByText := true, laidKinds := [.data, .data, .data, .data, .sentinel, .sentinel, .pinned], laidTests := true, laidLooks := .later }
def StateReadsUptoCardSaid : Prop := Claim7.holds Tryd.pinned (.plain (OpenSpec.upto stateReadsSpec)) stateReadsUptoCard

/-- THE SECOND FORM's CARD OF 'florlaw2.StateGrades'. -/
def stateGradesUptoCard : Claim7 := { stood := { row := stateGradesUptoRow, standIns := [], harness := (true, "646878e5992ad0540c22e819e8af21575422b94016e3e147405d3c11f36b3abb"), looks := true }, kinds := [], alts := [], laidByText := true, laidKinds := [.data, .data], laidTests := true, laidLooks := .later }
def StateGradesUptoCardSaid : Prop := Claim7.holds Tryd.pinned (.plain (OpenSpec.upto stateGradesSpec)) stateGradesUptoCard

/-- THE SECOND FORM's CARD OF 'florlaw2.StateReplays'. -/
def stateReplaysUptoCard : Claim7 := { stood := { row := stateReplaysUptoRow, standIns := [], harness := (true, "646878e5992ad0540c22e819e8af21575422b94016e3e147405d3c11f36b3abb"), looks := true }, kinds := [], alts := [], laidByText := true, laidKinds := [.data, .data], laidTests := true, laidLooks := .later }
def StateReplaysUptoCardSaid : Prop := Claim7.holds Tryd.pinned (.plain (OpenSpec.upto stateReplaysSpec)) stateReplaysUptoCard

/-- THE SECOND FORM's CARD OF 'florlaw2.CardGrades'. -/
def cardGradesUptoCard : Claim7 := { stood := { row := cardGradesUptoRow, standIns := [], harness := (true, "646878e5992ad0540c22e819e8af21575422b94016e3e147405d3c11f36b3abb"), looks := true }, kinds := [], alts := [], laidByText := true, laidKinds := [.data, .data], laidTests := true, laidLooks := .later }
def CardGradesUptoCardSaid : Prop := Claim7.holds Tryd.pinned (.plain (OpenSpec.upto cardGradesSpec)) cardGradesUptoCard

/-- THE SECOND FORM's CARD OF 'florkeep2.StateRound'. -/
def stateRoundUptoCard : Claim7 := { stood := { row := stateRoundUptoRow, standIns := [], harness := (true, "646878e5992ad0540c22e819e8af21575422b94016e3e147405d3c11f36b3abb"), looks := true }, kinds := [], alts := [], laidByText := true, laidKinds := [.data, .data, .data, .data, .sentinel, .sentinel, .pinned], laidTests := true, laidLooks := .later }
def StateRoundUptoCardSaid : Prop := Claim7.holds Tryd.pinned (.plain (OpenSpec.upto stateRoundSpec)) stateRoundUptoCard

/-- THE SECOND FORM's CARD OF 'flortop.TopCards'. -/
def topCardsUptoCard : Claim7 := { stood := { row := topCardsUptoRow, standIns := [], harness := (true, "646878e5992ad0540c22e819e8af21575422b94016e3e147405d3c11f36b3abb"), looks := true }, kinds := [], alts := [], laidByText := true, laidKinds := [.data, .data], laidTests := true, laidLooks := .later }
def TopCardsUptoCardSaid : Prop := Claim7.holds Tryd.pinned (.plain (OpenSpec.upto topCardsSpec)) topCardsUptoCard
end Rows
end Go.Proofs.YtnellkdiafglgaaDoor
