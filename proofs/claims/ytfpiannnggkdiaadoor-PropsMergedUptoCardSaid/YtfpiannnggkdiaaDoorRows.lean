/-
  NARROWER THAN 'FOR EVERY INPUT', by the rows' own cells (each row's printed sentence says how): DayGrids: laid · PropsMerged: loops, laid.
  DERIVED. THE GIVEN ROWS OF THIS SEAT. 2 by the template 'for every input the law returns true; each argument reads behind the call as it read before'; 0 by the template 'total and deterministic' (their statements: YtfpiannnggkdiaaDoorTotals.lean).
  GIVEN WITH THE SEED: the statements are not yours to turn. If you find one false, say at which input.
  Laid BY PROGRAM, IN A SANDBOX (cutbox-rows.mjs): the forced cells as the released guide's own fill.sh prints them over the translation d9fa643c3c99f270… (all of the seat's roots in one cut). By AI agents, Wed Nov 11 2026. No macro, syntax, notation, axiom, sorry.
-/
import Derived.Test.YtfpiannnggkdiaaDoorChecked
import GoSem.PinnedTables
import GoSem.Claim
import GoSem.ClaimJoined
import GoSem.ClaimMapViews
import Derived.JoinedTies
import Derived.KernelRfl
namespace Go.Proofs.YtfpiannnggkdiaaDoor
/- THE CELL 'sum', in the pinned program and in every row, IS THE sha256 OF THE DUMP (.gsa) THAT YtfpiannnggkdiaaDoorProg.lean LOADS. Nothing in Lean hashes anything: it is a label: what it is worth is what the hold of that sum in a sandbox is worth. -/
noncomputable def Tryd.pinned : Pinned := { name := "ytfpiannnggkdiaadoor", sum := "d9fa643c3c99f270fd6ac5cf4548ee7e55284a0cb528d68085f097e1284f7f22", checked := Tryd.checked }
namespace Rows
def none {H : Type} : Left H := { results := [], args := [] }

/- WHAT THE LISTED PACKAGE-LEVEL VARIABLES READ AS WHEN THE CALL BEGINS. Each datum BY PROGRAM (the guide's laid-datum.mjs) off the statement by which the dump's own 'gosem.cut.vars' lays the variable. In a bare row this is a premise. The card (YtfpiannnggkdiaaDoorCards.lean) ties it to the program's text. -/
def laid_florilegium_prop_monthLengths {H : Type} : DataW H := .agg [.lit (.int .i64 31), .lit (.int .i64 28), .lit (.int .i64 31), .lit (.int .i64 30), .lit (.int .i64 31), .lit (.int .i64 30), .lit (.int .i64 31), .lit (.int .i64 31), .lit (.int .i64 30), .lit (.int .i64 31), .lit (.int .i64 30), .lit (.int .i64 31)]
def laid_florilegium_day_monthLengths {H : Type} : DataW H := .agg [.lit (.int .i64 31), .lit (.int .i64 28), .lit (.int .i64 31), .lit (.int .i64 30), .lit (.int .i64 31), .lit (.int .i64 30), .lit (.int .i64 31), .lit (.int .i64 31), .lit (.int .i64 30), .lit (.int .i64 31), .lit (.int .i64 30), .lit (.int .i64 31)]
def laid_unicode_utf8_acceptRanges {H : Type} : DataW H := .agg [.agg [.lit (.int .u8 128), .lit (.int .u8 191)], .agg [.lit (.int .u8 160), .lit (.int .u8 191)], .agg [.lit (.int .u8 128), .lit (.int .u8 159)], .agg [.lit (.int .u8 144), .lit (.int .u8 191)], .agg [.lit (.int .u8 128), .lit (.int .u8 143)], .agg [.lit (.int .u8 0), .lit (.int .u8 0)], .agg [.lit (.int .u8 0), .lit (.int .u8 0)], .agg [.lit (.int .u8 0), .lit (.int .u8 0)], .agg [.lit (.int .u8 0), .lit (.int .u8 0)], .agg [.lit (.int .u8 0), .lit (.int .u8 0)], .agg [.lit (.int .u8 0), .lit (.int .u8 0)], .agg [.lit (.int .u8 0), .lit (.int .u8 0)], .agg [.lit (.int .u8 0), .lit (.int .u8 0)], .agg [.lit (.int .u8 0), .lit (.int .u8 0)], .agg [.lit (.int .u8 0), .lit (.int .u8 0)], .agg [.lit (.int .u8 0), .lit (.int .u8 0)]]
/-- One of Go's own tables, pinned by name: the form's constant. -/
def laid_unicode_utf8_first : DataW Unit := Go.Pinned.utf8First

/-- 'florlaw2.DayGrids': WHATEVER THE INPUT: true; the input reads as it did. -/
def dayGridsSpec : ChangeSpec := { name := "dayGrids", fn := fun _ => fun
  | [d1, d2, d3, d4] => { results := [.lit (.bool true)], args := [d1, d2, d3, d4] }
  | _ => none }
def dayGridsRow : OpenClaim := { program := "ytfpiannnggkdiaadoor", sum := "d9fa643c3c99f270fd6ac5cf4548ee7e55284a0cb528d68085f097e1284f7f22", func := "florilegium/florlaw2.DayGrids", spec := "dayGrids", unfollowed := true, recurses := true, named := ["florilegium/prop.monthLengths", "florilegium/day.monthLengths"], apart := false, laid := [("florilegium/prop.monthLengths", laid_florilegium_prop_monthLengths), ("florilegium/day.monthLengths", laid_florilegium_day_monthLengths)] }
def DayGridsSaid : Prop := dayGridsRow.holds Tryd.pinned (OpenSpec.ofChange dayGridsSpec)

/-- ITS FALSE NEIGHBOUR: 'it returns false'. Refute it at one input. -/
def dayGridsWrong : ChangeSpec := { name := "dayGrids", fn := fun _ => fun
  | [d1, d2, d3, d4] => { results := [.lit (.bool false)], args := [d1, d2, d3, d4] }
  | _ => none }
def DayGridsWrongFalsely : Prop := dayGridsRow.holds Tryd.pinned (OpenSpec.ofChange dayGridsWrong)

/-- 'florkeep2.PropsMerged': WHATEVER THE INPUT: true; the input reads as it did. -/
def propsMergedSpec : ChangeSpec := { name := "propsMerged", fn := fun _ => fun
  | [d1, d2] => { results := [.lit (.bool true)], args := [d1, d2] }
  | _ => none }
def propsMergedRow : OpenClaim := { program := "ytfpiannnggkdiaadoor", sum := "d9fa643c3c99f270fd6ac5cf4548ee7e55284a0cb528d68085f097e1284f7f22", func := "florilegium/florkeep2.PropsMerged", spec := "propsMerged", inPlace := ["internal/bytealg.IndexByteString", "internal/bytealg.IndexString"], unfollowed := true, recurses := true, named := ["florilegium/prop.monthLengths", "unicode/utf8.first", "unicode/utf8.acceptRanges", "internal/bytealg.MaxLen"], loops := true, apart := false, laid := [("unicode/utf8.acceptRanges", laid_unicode_utf8_acceptRanges), ("florilegium/prop.monthLengths", laid_florilegium_prop_monthLengths), ("unicode/utf8.first", laid_unicode_utf8_first)] }
def PropsMergedSaid : Prop := propsMergedRow.holds Tryd.pinned (OpenSpec.ofChange propsMergedSpec)

/-- ITS FALSE NEIGHBOUR: 'it returns false'. Refute it at one input. -/
def propsMergedWrong : ChangeSpec := { name := "propsMerged", fn := fun _ => fun
  | [d1, d2] => { results := [.lit (.bool false)], args := [d1, d2] }
  | _ => none }
def PropsMergedWrongFalsely : Prop := propsMergedRow.holds Tryd.pinned (OpenSpec.ofChange propsMergedWrong)

/- THE SECOND FORM. 'bulk': how many values and letters a reading holds, each counted each time it is reached (what is shared counts as often as it is met; a slice's spare places count too). A statement '..UptoSaid' is the law's where the arguments, and the package variables that the reading takes, are together of bulk at most 1048576: NARROWER than '..Said'. Prove '..Said' where nothing that the law and all that it calls make is longer than what came in: it says more and counts as full. Else prove '..UptoSaid'. A law counts once. -/
mutual
def uptoBulk {H : Type} : DataW H → Nat
  | .lit (.string bytes) => bytes.length + 1
  | .lit _ => 1
  | .nil => 1
  | .ptr d => uptoBulk d + 1
  | .slice elems spare => uptoBulkAll elems + uptoBulkAll spare + 1
  | .agg parts => uptoBulkAll parts + 1
  | .iface _ d => uptoBulk d + 1
  | .map entries => uptoBulkEntries entries + 1
  | .held _ => 1
def uptoBulkAll {H : Type} : List (DataW H) → Nat
  | [] => 0
  | d :: r => uptoBulk d + uptoBulkAll r
def uptoBulkEntries {H : Type} : List (Lit × DataW H) → Nat
  | [] => 0
  | x :: r => uptoBulkEntry x + uptoBulkEntries r
def uptoBulkEntry {H : Type} : Lit × DataW H → Nat
  | (.string bytes, d) => bytes.length + uptoBulk d + 1
  | (_, d) => uptoBulk d + 1
 end
def uptoSmall : (H : Type) → List (DataW H) → Bool := fun _ ds => decide (uptoBulkAll ds ≤ 1048576)
def OpenSpec.upto (s : _root_.Go.ChangeSpec) : _root_.Go.OpenSpec := { _root_.Go.OpenSpec.ofChange s with cond := some uptoSmall }

/-- 'florlaw2.DayGrids', WHERE WHAT IT READS IS OF BULK AT MOST 1048576: true; the input reads as it did. -/
def dayGridsUptoRow : OpenClaim := { program := "ytfpiannnggkdiaadoor", sum := "d9fa643c3c99f270fd6ac5cf4548ee7e55284a0cb528d68085f097e1284f7f22", func := "florilegium/florlaw2.DayGrids", spec := "dayGrids", unfollowed := true, recurses := true, named := ["florilegium/prop.monthLengths", "florilegium/day.monthLengths"], apart := false, laid := [("florilegium/prop.monthLengths", laid_florilegium_prop_monthLengths), ("florilegium/day.monthLengths", laid_florilegium_day_monthLengths)], narrowed := true }
def DayGridsUptoSaid : Prop := dayGridsUptoRow.holds Tryd.pinned (OpenSpec.upto dayGridsSpec)

/-- 'florkeep2.PropsMerged', WHERE WHAT IT READS IS OF BULK AT MOST 1048576: true; the input reads as it did. -/
def propsMergedUptoRow : OpenClaim := { program := "ytfpiannnggkdiaadoor", sum := "d9fa643c3c99f270fd6ac5cf4548ee7e55284a0cb528d68085f097e1284f7f22", func := "florilegium/florkeep2.PropsMerged", spec := "propsMerged", inPlace := ["internal/bytealg.IndexByteString", "internal/bytealg.IndexString"], unfollowed := true, recurses := true, named := ["florilegium/prop.monthLengths", "unicode/utf8.first", "unicode/utf8.acceptRanges", "internal/bytealg.MaxLen"], loops := true, apart := false, laid := [("unicode/utf8.acceptRanges", laid_unicode_utf8_acceptRanges), ("florilegium/prop.monthLengths", laid_florilegium_prop_monthLengths), ("unicode/utf8.first", laid_unicode_utf8_first)], narrowed := true }
def PropsMergedUptoSaid : Prop := propsMergedUptoRow.holds Tryd.pinned (OpenSpec.upto propsMergedSpec)

end Rows
end Go.Proofs.YtfpiannnggkdiaaDoor
