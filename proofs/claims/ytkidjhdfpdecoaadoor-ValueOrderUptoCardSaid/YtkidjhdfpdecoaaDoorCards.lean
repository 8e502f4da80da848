/-
  DERIVED. GIVEN WITH THE SEED: THE CARDS: each row of YtkidjhdfpdecoaaDoorRows.lean that lists a variable, with what it lists TIED to the program's text (the seventh form; the later family's looks); each row that meets fmt, with fmt's text TOLD by the authors' own Lean function (tested against real Go, not proved from fmt's source: count such statements apart). THE CARD IS WHAT COUNTS. Prove the row's statement (the work); the ties are given (YtkidjhdfpdecoaaDoorTie.lean); close each card by the builder's one call (the guide's Derived/Test/ToyasCard.lean, 'card_holds'). Laid BY PROGRAM, IN A SANDBOX (cutbox-door.mjs). By AI agents, Wed Nov 11 2026. No macro, syntax, notation, axiom, sorry.
-/
import Derived.Test.YtkidjhdfpdecoaaDoorRows
import GoSem.ClaimSeven
namespace Go.Proofs.YtkidjhdfpdecoaaDoor
namespace Rows

/-- THE TIED CARD OF 'florlaw2.DayCounts'. -/
def dayCountsCard : Claim7 := { stood := { row := dayCountsRow, standIns := [], harness := (true, "4202a4e1bd71eaac7d69579ac411d2f4cfe3254b0e8f1f51cdfc767a194dac46"), looks := false }, kinds := [], alts := [], laidByText := true, laidKinds := [.data, .data, .data, .data], laidTests := true, laidLooks := .later }
def DayCountsCardSaid : Prop := Claim7.holds Tryd.pinned (.plain (OpenSpec.ofChange dayCountsSpec)) dayCountsCard

/-- THE TIED CARD OF 'florlaw2.PropTypes'. -/
def propTypesCard : Claim7 := { stood := { row := propTypesRow, standIns := [], harness := (true, "4202a4e1bd71eaac7d69579ac411d2f4cfe3254b0e8f1f51cdfc767a194dac46"), looks := false }, kinds := [], alts := [], laidByText := true, laidKinds := [.data, .pinned], laidTests := true, laidLooks := .later }
def PropTypesCardSaid : Prop := Claim7.holds Tryd.pinned (.plain (OpenSpec.ofChange propTypesSpec)) propTypesCard

/-- THE TIED CARD OF 'florkeep2.ValueOrder'. -/
def valueOrderCard : Claim7 := { stood := { row := valueOrderRow, standIns := [], harness := (true, "4202a4e1bd71eaac7d69579ac411d2f4cfe3254b0e8f1f51cdfc767a194dac46"), looks := false }, kinds := [], alts := [], laidByText := true, laidKinds := [.data], laidTests := true, laidLooks := .later }
def ValueOrderCardSaid : Prop := Claim7.holds Tryd.pinned (.plain (OpenSpec.ofChange valueOrderSpec)) valueOrderCard

/-- THE TIED CARD OF 'florkeep2.DayWalk'. -/
def dayWalkCard : Claim7 := { stood := { row := dayWalkRow, standIns := [], harness := (true, "4202a4e1bd71eaac7d69579ac411d2f4cfe3254b0e8f1f51cdfc767a194dac46"), looks := false }, kinds := [], alts := [], laidByText := true, laidKinds := [.data], laidTests := true, laidLooks := .later }
def DayWalkCardSaid : Prop := Claim7.holds Tryd.pinned (.plain (OpenSpec.ofChange dayWalkSpec)) dayWalkCard

/-- THE TIED CARD OF 'florkeep2.PropsMerged'. -/
def propsMergedCard : Claim7 := { stood := { row := propsMergedRow, standIns := [], harness := (true, "4202a4e1bd71eaac7d69579ac411d2f4cfe3254b0e8f1f51cdfc767a194dac46"), looks := false }, kinds := [], alts := [], laidByText := true, laidKinds := [.data, .data, .pinned], laidTests := true, laidLooks := .later }
def PropsMergedCardSaid : Prop := Claim7.holds Tryd.pinned (.plain (OpenSpec.ofChange propsMergedSpec)) propsMergedCard

/-- THE SECOND FORM's CARD OF 'florlaw2.DayCounts'. -/
def dayCountsUptoCard : Claim7 := { stood := { row := dayCountsUptoRow, standIns := [], harness := (true, "4202a4e1bd71eaac7d69579ac411d2f4cfe3254b0e8f1f51cdfc767a194dac46"), looks := false }, kinds := [], alts := [], laidByText := true, laidKinds := [.data, .data, .data, .data], laidTests := true, laidLooks := .later }
def DayCountsUptoCardSaid : Prop := Claim7.holds Tryd.pinned (.plain (OpenSpec.upto dayCountsSpec)) dayCountsUptoCard

/-- THE SECOND FORM's CARD OF 'florlaw2.PropTypes'. -/
def propTypesUptoCard : Claim7 := { stood := { row := propTypesUptoRow, standIns := [], harness := (true, "4202a4e1bd71eaac7d69579ac411d2f4cfe3254b0e8f1f51cdfc767a194dac46"), looks := false }, kinds := [], alts := [], laidByText := true, laidKinds := [.data, .pinned], laidTests := true, laidLooks := .later }
def PropTypesUptoCardSaid : Prop := Claim7.holds Tryd.pinned (.plain (OpenSpec.upto propTypesSpec)) propTypesUptoCard

/-- THE SECOND FORM's CARD OF 'florkeep2.ValueOrder'. -/
def valueOrderUptoCard : Claim7 := { stood := { row := valueOrderUptoRow, standIns := [], harness := (true, "4202a4e1bd71eaac7d69579ac411d2f4cfe3254b0e8f1f51cdfc767a194dac46"), looks := false }, kinds := [], alts := [], laidByText := true, laidKinds := [.data], laidTests := true, laidLooks := .later }
def ValueOrderUptoCardSaid : Prop := Claim7.holds Tryd.pinned (.plain (OpenSpec.upto valueOrderSpec)) valueOrderUptoCard

/-- THE SECOND FORM's CARD OF 'florkeep2.DayWalk'. -/
def dayWalkUptoCard : Claim7 := { stood := { row := dayWalkUptoRow, standIns := [], harness := (true, "4202a4e1bd71eaac7d69579ac411d2f4cfe3254b0e8f1f51cdfc767a194dac46"), looks := false }, kinds := [], alts := [], laidByText := true, laidKinds := [.data], laidTests := true, laidLooks := .later }
def DayWalkUptoCardSaid : Prop := Claim7.holds Tryd.pinned (.plain (OpenSpec.upto dayWalkSpec)) dayWalkUptoCard

/-- THE SECOND FORM's CARD OF 'florkeep2.PropsMerged'. -/
def propsMergedUptoCard : Claim7 := { stood := { row := propsMergedUptoRow, standIns := [], harness := (true, "4202a4e1bd71eaac7d69579ac411d2f4cfe3254b0e8f1f51cdfc767a194dac46"), looks := false }, kinds := [], alts := [], laidByText := true, laidKinds := [.data, .data, .pinned], laidTests := true, laidLooks := .later }
def PropsMergedUptoCardSaid : Prop := Claim7.holds Tryd.pinned (.plain (OpenSpec.upto propsMergedSpec)) propsMergedUptoCard
end Rows
end Go.Proofs.YtkidjhdfpdecoaaDoor
