/-
  DERIVED. GIVEN WITH THE SEED: THE CARDS: each row of YticdapkljbillaaDoorRows.lean that lists a variable, with what it lists TIED to the program's text (the seventh form; the later family's looks); each row that meets fmt, with fmt's text TOLD by the authors' own Lean function (tested against real Go, not proved from fmt's source: count such statements apart). THE CARD IS WHAT COUNTS. Prove the row's statement (the work); the ties are given (YticdapkljbillaaDoorTie.lean); close each card by the builder's one call (the guide's Derived/Test/ToyasCard.lean, 'card_holds'). Laid BY PROGRAM, IN A SANDBOX (cutbox-door.mjs). By AI agents, Wed Nov 11 2026. No macro, syntax, notation, axiom, sorry.
-/
import Derived.Test.YticdapkljbillaaDoorRows
import GoSem.ClaimSeven
namespace Go.Proofs.YticdapkljbillaaDoor
namespace Rows

/-- THE TIED CARD OF 'florlaw1.TreeOutlineReads'. -/
def treeOutlineReadsCard : Claim7 := { stood := { row := treeOutlineReadsRow, standIns := [], harness := (true, "4a8b0e7f6321994fe52a5e6fac6d29a5dd16bcd22cd8d887a5ba24b296214e1c"), looks := false }, kinds := [], alts := [], laidByText := true, laidKinds := [.data, .pinned], laidTests := true, laidLooks := .later }
def TreeOutlineReadsCardSaid : Prop := Claim7.holds Tryd.pinned (.plain (OpenSpec.ofChange treeOutlineReadsSpec)) treeOutlineReadsCard

/-- THE TIED CARD OF 'florlaw2.PropTypes'. -/
def propTypesCard : Claim7 := { stood := { row := propTypesRow, standIns := [], harness := (true, "4a8b0e7f6321994fe52a5e6fac6d29a5dd16bcd22cd8d887a5ba24b296214e1c"), looks := false }, kinds := [], alts := [], laidByText := true, laidKinds := [.data, .pinned], laidTests := true, laidLooks := .later }
def PropTypesCardSaid : Prop := Claim7.holds Tryd.pinned (.plain (OpenSpec.ofChange propTypesSpec)) propTypesCard

/-- THE SECOND FORM's CARD OF 'florlaw1.TreeOutlineReads'. -/
def treeOutlineReadsUptoCard : Claim7 := { stood := { row := treeOutlineReadsUptoRow, standIns := [], harness := (true, "4a8b0e7f6321994fe52a5e6fac6d29a5dd16bcd22cd8d887a5ba24b296214e1c"), looks := false }, kinds := [], alts := [], laidByText := true, laidKinds := [.data, .pinned], laidTests := true, laidLooks := .later }
def TreeOutlineReadsUptoCardSaid : Prop := Claim7.holds Tryd.pinned (.plain (OpenSpec.upto treeOutlineReadsSpec)) treeOutlineReadsUptoCard

/-- THE SECOND FORM's CARD OF 'florlaw2.PropTypes'. -/
def propTypesUptoCard : Claim7 := { stood := { row := propTypesUptoRow, standIns := [], harness := (true, "4a8b0e7f6321994fe52a5e6fac6d29a5dd16bcd22cd8d887a5ba24b296214e1c"), looks := false }, kinds := [], alts := [], laidByText := true, laidKinds := [.data, .pinned], laidTests := true, laidLooks := .later }
def PropTypesUptoCardSaid : Prop := Claim7.holds Tryd.pinned (.plain (OpenSpec.upto propTypesSpec)) propTypesUptoCard
end Rows
end Go.Proofs.YticdapkljbillaaDoor
