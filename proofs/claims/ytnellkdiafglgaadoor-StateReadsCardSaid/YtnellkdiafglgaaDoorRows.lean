/-
  NARROWER THAN 'FOR EVERY INPUT', by the rows' own cells (each row's printed sentence says how): StateChecks: laid · StateReads: laid · StateGrades: laid · StateReplays: laid · CardGrades: laid · StateRound: laid · TopCards: laid.
  DERIVED. THE GIVEN ROWS OF THIS SEAT. 7 by the template 'for every input the law returns true; each argument reads behind the call as it read before'; 0 by the template 'total and deterministic' (their statements: YtnellkdiafglgaaDoorTotals.lean).
  GIVEN WITH THE SEED: the statements are not yours to turn. If you find one false, say at which input.
  Laid BY PROGRAM, IN A SANDBOX (cutbox-rows.mjs): the forced cells as the released guide's own fill.sh prints them over the translation e6a9b539ff63571d… (all of the seat's roots in one cut). By AI agents, Wed Nov 11 2026. No macro, syntax, notation, axiom, sorry.
-/
import Derived.Test.YtnellkdiafglgaaDoorChecked
import GoSem.PinnedTables
import GoSem.Claim
import GoSem.ClaimJoined
import GoSem.ClaimMapViews
import Derived.JoinedTies
import Derived.KernelRfl
namespace Go.Proofs.YtnellkdiafglgaaDoor
/- THE CELL 'sum', in the pinned program and in every row, IS THE sha256 OF THE DUMP (.gsa) THAT YtnellkdiafglgaaDoorProg.lean LOADS. Nothing in Lean hashes anything: it is a label: what it is worth is what the hold of that sum in a sandbox is worth. -/
noncomputable def Tryd.pinned : Pinned := { name := "ytnellkdiafglgaadoor", sum := "e6a9b539ff63571d8b72f61d5b099e6841869d0bd9e1566625a5aed5332b7dc0", checked := Tryd.checked }
namespace Rows
def none {H : Type} : Left H := { results := [], args := [] }

/- WHAT THE LISTED PACKAGE-LEVEL VARIABLES READ AS WHEN THE CALL BEGINS. Each datum BY PROGRAM (the guide's laid-datum.mjs) off the statement by which the dump's own 'gosem.cut.vars' lays the variable. In a bare row this is a premise. The card (YtnellkdiafglgaaDoorCards.lean) ties it to the program's text. -/
def laid_math_bits_deBruijn32tab {H : Type} : DataW H := .agg [.lit (.int .u8 0), .lit (.int .u8 1), .lit (.int .u8 28), .lit (.int .u8 2), .lit (.int .u8 29), .lit (.int .u8 14), .lit (.int .u8 24), .lit (.int .u8 3), .lit (.int .u8 30), .lit (.int .u8 22), .lit (.int .u8 20), .lit (.int .u8 15), .lit (.int .u8 25), .lit (.int .u8 17), .lit (.int .u8 4), .lit (.int .u8 8), .lit (.int .u8 31), .lit (.int .u8 27), .lit (.int .u8 13), .lit (.int .u8 23), .lit (.int .u8 21), .lit (.int .u8 19), .lit (.int .u8 16), .lit (.int .u8 7), .lit (.int .u8 26), .lit (.int .u8 12), .lit (.int .u8 18), .lit (.int .u8 6), .lit (.int .u8 11), .lit (.int .u8 5), .lit (.int .u8 10), .lit (.int .u8 9)]
def laid_math_bits_deBruijn64tab {H : Type} : DataW H := .agg [.lit (.int .u8 0), .lit (.int .u8 1), .lit (.int .u8 56), .lit (.int .u8 2), .lit (.int .u8 57), .lit (.int .u8 49), .lit (.int .u8 28), .lit (.int .u8 3), .lit (.int .u8 61), .lit (.int .u8 58), .lit (.int .u8 42), .lit (.int .u8 50), .lit (.int .u8 38), .lit (.int .u8 29), .lit (.int .u8 17), .lit (.int .u8 4), .lit (.int .u8 62), .lit (.int .u8 47), .lit (.int .u8 59), .lit (.int .u8 36), .lit (.int .u8 45), .lit (.int .u8 43), .lit (.int .u8 51), .lit (.int .u8 22), .lit (.int .u8 53), .lit (.int .u8 39), .lit (.int .u8 33), .lit (.int .u8 30), .lit (.int .u8 24), .lit (.int .u8 18), .lit (.int .u8 12), .lit (.int .u8 5), .lit (.int .u8 63), .lit (.int .u8 55), .lit (.int .u8 48), .lit (.int .u8 27), .lit (.int .u8 60), .lit (.int .u8 41), .lit (.int .u8 37), .lit (.int .u8 16), .lit (.int .u8 46), .lit (.int .u8 35), .lit (.int .u8 44), .lit (.int .u8 21), .lit (.int .u8 52), .lit (.int .u8 32), .lit (.int .u8 23), .lit (.int .u8 11), .lit (.int .u8 54), .lit (.int .u8 26), .lit (.int .u8 40), .lit (.int .u8 15), .lit (.int .u8 34), .lit (.int .u8 20), .lit (.int .u8 31), .lit (.int .u8 10), .lit (.int .u8 25), .lit (.int .u8 14), .lit (.int .u8 19), .lit (.int .u8 9), .lit (.int .u8 13), .lit (.int .u8 8), .lit (.int .u8 7), .lit (.int .u8 6)]
def laid_internal_strconv_uint64pow10 {H : Type} : DataW H := .agg [.lit (.int .u64 1), .lit (.int .u64 10), .lit (.int .u64 100), .lit (.int .u64 1000), .lit (.int .u64 10000), .lit (.int .u64 100000), .lit (.int .u64 1000000), .lit (.int .u64 10000000), .lit (.int .u64 100000000), .lit (.int .u64 1000000000), .lit (.int .u64 10000000000), .lit (.int .u64 100000000000), .lit (.int .u64 1000000000000), .lit (.int .u64 10000000000000), .lit (.int .u64 100000000000000), .lit (.int .u64 1000000000000000), .lit (.int .u64 10000000000000000), .lit (.int .u64 100000000000000000), .lit (.int .u64 1000000000000000000), .lit (.int .u64 10000000000000000000)]
def laid_unicode_utf8_acceptRanges {H : Type} : DataW H := .agg [.agg [.lit (.int .u8 128), .lit (.int .u8 191)], .agg [.lit (.int .u8 160), .lit (.int .u8 191)], .agg [.lit (.int .u8 128), .lit (.int .u8 159)], .agg [.lit (.int .u8 144), .lit (.int .u8 191)], .agg [.lit (.int .u8 128), .lit (.int .u8 143)], .agg [.lit (.int .u8 0), .lit (.int .u8 0)], .agg [.lit (.int .u8 0), .lit (.int .u8 0)], .agg [.lit (.int .u8 0), .lit (.int .u8 0)], .agg [.lit (.int .u8 0), .lit (.int .u8 0)], .agg [.lit (.int .u8 0), .lit (.int .u8 0)], .agg [.lit (.int .u8 0), .lit (.int .u8 0)], .agg [.lit (.int .u8 0), .lit (.int .u8 0)], .agg [.lit (.int .u8 0), .lit (.int .u8 0)], .agg [.lit (.int .u8 0), .lit (.int .u8 0)], .agg [.lit (.int .u8 0), .lit (.int .u8 0)], .agg [.lit (.int .u8 0), .lit (.int .u8 0)]]
def laid_strconv_ErrRange {H : Type} : DataW H := .iface "*errors.errorString" (.ptr (.agg [.lit (.string [118, 97, 108, 117, 101, 32, 111, 117, 116, 32, 111, 102, 32, 114, 97, 110, 103, 101])]))
def laid_strconv_ErrSyntax {H : Type} : DataW H := .iface "*errors.errorString" (.ptr (.agg [.lit (.string [105, 110, 118, 97, 108, 105, 100, 32, 115, 121, 110, 116, 97, 120])]))
/-- One of Go's own tables, pinned by name: the form's constant. -/
def laid_unicode_utf8_first : DataW Unit := Go.Pinned.utf8First
def laid_florilegium_card_firstSteps {H : Type} : DataW H := .agg [.lit (.int .i64 0), .lit (.int .i64 0), .lit (.int .i64 1), .lit (.int .i64 2), .lit (.int .i64 4)]
def laid_florilegium_card_easeChanges {H : Type} : DataW H := .agg [.lit (.int .i64 0), .lit (.int .i64 (-20)), .lit (.int .i64 (-15)), .lit (.int .i64 0), .lit (.int .i64 15)]

/-- 'florlaw2.StateChecks': WHATEVER THE INPUT: true; the input reads as it did. -/
def stateChecksSpec : ChangeSpec := { name := "stateChecks", fn := fun _ => fun
  | [d] => { results := [.lit (.bool true)], args := [d] }
  | _ => none }
def stateChecksRow : OpenClaim := { program := "ytnellkdiafglgaadoor", sum := "e6a9b539ff63571d8b72f61d5b099e6841869d0bd9e1566625a5aed5332b7dc0", func := "florilegium/florlaw2.StateChecks", spec := "stateChecks", inPlace := ["internal/abi.NoEscape", "internal/bytealg.MakeNoZero"], unfollowed := true, recurses := true, named := ["internal/strconv.uint64pow10", "math/bits.deBruijn32tab", "math/bits.deBruijn64tab"], apart := false, laid := [("math/bits.deBruijn32tab", laid_math_bits_deBruijn32tab), ("math/bits.deBruijn64tab", laid_math_bits_deBruijn64tab), ("internal/strconv.uint64pow10", laid_internal_strconv_uint64pow10)] }
def StateChecksSaid : Prop := stateChecksRow.holds Tryd.pinned (OpenSpec.ofChange stateChecksSpec)

/-- ITS FALSE NEIGHBOUR: 'it returns false'. Refute it at one input. -/
def stateChecksWrong : ChangeSpec := { name := "stateChecks", fn := fun _ => fun
  | [d] => { results := [.lit (.bool false)], args := [d] }
  | _ => none }
def StateChecksWrongFalsely : Prop := stateChecksRow.holds Tryd.pinned (OpenSpec.ofChange stateChecksWrong)

/-- 'florlaw2.StateReads': WHATEVER THE INPUT: true; the input reads as it did. -/
def stateReadsSpec : ChangeSpec := { name := "stateReads", fn := fun _ => fun
  | [d] => { results := [.lit (.bool true)], args := [d] }
  | _ => none }
def stateReadsRow : OpenClaim := { program := "ytnellkdiafglgaadoor", sum := "e6a9b539ff63571d8b72f61d5b099e6841869d0bd9e1566625a5aed5332b7dc0", func := "florilegium/florlaw2.StateReads", spec := "stateReads", inPlace := ["internal/bytealg.CountString", "internal/bytealg.IndexByteString", "internal/bytealg.IndexString"], unfollowed := true, recurses := true, named := ["unicode/utf8.first", "unicode/utf8.acceptRanges", "internal/bytealg.MaxLen", "strconv.ErrSyntax", "strconv.ErrRange", "internal/strconv.uint64pow10", "math/bits.deBruijn32tab", "math/bits.deBruijn64tab"], apart := false, laid := [("math/bits.deBruijn32tab", laid_math_bits_deBruijn32tab), ("math/bits.deBruijn64tab", laid_math_bits_deBruijn64tab), ("internal/strconv.uint64pow10", laid_internal_strconv_uint64pow10), ("unicode/utf8.acceptRanges", laid_unicode_utf8_acceptRanges), ("strconv.ErrRange", laid_strconv_ErrRange), ("strconv.ErrSyntax", laid_strconv_ErrSyntax), ("unicode/utf8.first", laid_unicode_utf8_first)] }
def StateReadsSaid : Prop := stateReadsRow.holds Tryd.pinned (OpenSpec.ofChange stateReadsSpec)

/-- ITS FALSE NEIGHBOUR: 'it returns false'. Refute it at one input. -/
def stateReadsWrong : ChangeSpec := { name := "stateReads", fn := fun _ => fun
  | [d] => { results := [.lit (.bool false)], args := [d] }
  | _ => none }
def StateReadsWrongFalsely : Prop := stateReadsRow.holds Tryd.pinned (OpenSpec.ofChange stateReadsWrong)

/-- 'florlaw2.StateGrades': WHATEVER THE INPUT: true; the input reads as it did. -/
def stateGradesSpec : ChangeSpec := { name := "stateGrades", fn := fun _ => fun
  | [d1, d2, d3] => { results := [.lit (.bool true)], args := [d1, d2, d3] }
  | _ => none }
def stateGradesRow : OpenClaim := { program := "ytnellkdiafglgaadoor", sum := "e6a9b539ff63571d8b72f61d5b099e6841869d0bd9e1566625a5aed5332b7dc0", func := "florilegium/florlaw2.StateGrades", spec := "stateGrades", unfollowed := true, recurses := true, named := ["florilegium/card.easeChanges", "florilegium/card.firstSteps"], apart := false, laid := [("florilegium/card.firstSteps", laid_florilegium_card_firstSteps), ("florilegium/card.easeChanges", laid_florilegium_card_easeChanges)] }
def StateGradesSaid : Prop := stateGradesRow.holds Tryd.pinned (OpenSpec.ofChange stateGradesSpec)

/-- ITS FALSE NEIGHBOUR: 'it returns false'. Refute it at one input. -/
def stateGradesWrong : ChangeSpec := { name := "stateGrades", fn := fun _ => fun
  | [d1, d2, d3] => { results := [.lit (.bool false)], args := [d1, d2, d3] }
  | _ => none }
def StateGradesWrongFalsely : Prop := stateGradesRow.holds Tryd.pinned (OpenSpec.ofChange stateGradesWrong)

/-- 'florlaw2.StateReplays': WHATEVER THE INPUT: true; the input reads as it did. -/
def stateReplaysSpec : ChangeSpec := { name := "stateReplays", fn := fun _ => fun
  | [d1, d2, d3] => { results := [.lit (.bool true)], args := [d1, d2, d3] }
  | _ => none }
def stateReplaysRow : OpenClaim := { program := "ytnellkdiafglgaadoor", sum := "e6a9b539ff63571d8b72f61d5b099e6841869d0bd9e1566625a5aed5332b7dc0", func := "florilegium/florlaw2.StateReplays", spec := "stateReplays", unfollowed := true, recurses := true, named := ["florilegium/card.easeChanges", "florilegium/card.firstSteps"], apart := false, laid := [("florilegium/card.firstSteps", laid_florilegium_card_firstSteps), ("florilegium/card.easeChanges", laid_florilegium_card_easeChanges)] }
def StateReplaysSaid : Prop := stateReplaysRow.holds Tryd.pinned (OpenSpec.ofChange stateReplaysSpec)

/-- ITS FALSE NEIGHBOUR: 'it returns false'. Refute it at one input. -/
def stateReplaysWrong : ChangeSpec := { name := "stateReplays", fn := fun _ => fun
  | [d1, d2, d3] => { results := [.lit (.bool false)], args := [d1, d2, d3] }
  | _ => none }
def StateReplaysWrongFalsely : Prop := stateReplaysRow.holds Tryd.pinned (OpenSpec.ofChange stateReplaysWrong)

/-- 'florlaw2.CardGrades': WHATEVER THE INPUT: true; the input reads as it did. -/
def cardGradesSpec : ChangeSpec := { name := "cardGrades", fn := fun _ => fun
  | [d1, d2, d3, d4] => { results := [.lit (.bool true)], args := [d1, d2, d3, d4] }
  | _ => none }
def cardGradesRow : OpenClaim := { program := "ytnellkdiafglgaadoor", sum := "e6a9b539ff63571d8b72f61d5b099e6841869d0bd9e1566625a5aed5332b7dc0", func := "florilegium/florlaw2.CardGrades", spec := "cardGrades", unfollowed := true, recurses := true, named := ["florilegium/card.easeChanges", "florilegium/card.firstSteps"], apart := false, laid := [("florilegium/card.firstSteps", laid_florilegium_card_firstSteps), ("florilegium/card.easeChanges", laid_florilegium_card_easeChanges)] }
def CardGradesSaid : Prop := cardGradesRow.holds Tryd.pinned (OpenSpec.ofChange cardGradesSpec)

/-- ITS FALSE NEIGHBOUR: 'it returns false'. Refute it at one input. -/
def cardGradesWrong : ChangeSpec := { name := "cardGrades", fn := fun _ => fun
  | [d1, d2, d3, d4] => { results := [.lit (.bool false)], args := [d1, d2, d3, d4] }
  | _ => none }
def CardGradesWrongFalsely : Prop := cardGradesRow.holds Tryd.pinned (OpenSpec.ofChange cardGradesWrong)

/-- 'florkeep2.StateRound': WHATEVER THE INPUT: true; the input reads as it did. -/
def stateRoundSpec : ChangeSpec := { name := "stateRound", fn := fun _ => fun
  | [d] => { results := [.lit (.bool true)], args := [d] }
  | _ => none }
def stateRoundRow : OpenClaim := { program := "ytnellkdiafglgaadoor", sum := "e6a9b539ff63571d8b72f61d5b099e6841869d0bd9e1566625a5aed5332b7dc0", func := "florilegium/florkeep2.StateRound", spec := "stateRound", inPlace := ["internal/abi.NoEscape", "internal/bytealg.MakeNoZero", "internal/bytealg.CountString", "internal/bytealg.IndexByteString", "internal/bytealg.IndexString"], named := ["internal/strconv.uint64pow10", "math/bits.deBruijn32tab", "math/bits.deBruijn64tab", "unicode/utf8.first", "unicode/utf8.acceptRanges", "internal/bytealg.MaxLen", "strconv.ErrSyntax", "strconv.ErrRange"], apart := false, laid := [("math/bits.deBruijn32tab", laid_math_bits_deBruijn32tab), ("math/bits.deBruijn64tab", laid_math_bits_deBruijn64tab), ("internal/strconv.uint64pow10", laid_internal_strconv_uint64pow10), ("unicode/utf8.acceptRanges", laid_unicode_utf8_acceptRanges), ("strconv.ErrRange", laid_strconv_ErrRange), ("strconv.ErrSyntax", laid_strconv_ErrSyntax), ("unicode/utf8.first", laid_unicode_utf8_first)] }
def StateRoundSaid : Prop := stateRoundRow.holds Tryd.pinned (OpenSpec.ofChange stateRoundSpec)

/-- ITS FALSE NEIGHBOUR: 'it returns false'. Refute it at one input. -/
def stateRoundWrong : ChangeSpec := { name := "stateRound", fn := fun _ => fun
  | [d] => { results := [.lit (.bool false)], args := [d] }
  | _ => none }
def StateRoundWrongFalsely : Prop := stateRoundRow.holds Tryd.pinned (OpenSpec.ofChange stateRoundWrong)

/-- 'flortop.TopCards': WHATEVER THE INPUT: true; the input reads as it did. -/
def topCardsSpec : ChangeSpec := { name := "topCards", fn := fun _ => fun
  | [d1, d2, d3] => { results := [.lit (.bool true)], args := [d1, d2, d3] }
  | _ => none }
def topCardsRow : OpenClaim := { program := "ytnellkdiafglgaadoor", sum := "e6a9b539ff63571d8b72f61d5b099e6841869d0bd9e1566625a5aed5332b7dc0", func := "florilegium/flortop.TopCards", spec := "topCards", named := ["florilegium/card.easeChanges", "florilegium/card.firstSteps"], apart := false, laid := [("florilegium/card.firstSteps", laid_florilegium_card_firstSteps), ("florilegium/card.easeChanges", laid_florilegium_card_easeChanges)] }
def TopCardsSaid : Prop := topCardsRow.holds Tryd.pinned (OpenSpec.ofChange topCardsSpec)

/-- ITS FALSE NEIGHBOUR: 'it returns false'. Refute it at one input. -/
def topCardsWrong : ChangeSpec := { name := "topCards", fn := fun _ => fun
  | [d1, d2, d3] => { results := [.lit (.bool false)], args := [d1, d2, d3] }
  | _ => none }
def TopCardsWrongFalsely : Prop := topCardsRow.holds Tryd.pinned (OpenSpec.ofChange topCardsWrong)

/- THE SECOND FORM. 'bulk': how many values and letters a reading holds, each counted each time it is reached (what is shared counts as often as it is met; a slice's spare places count too). A statement '..UptoSaid' is the law's where the arguments, and the package variables that the reading takes, are together of bulk at most 1048576: NARROWER than '..Said'. Prove '..Said' where nothing that the law and all that it calls make is longer than what came in: it says more and counts as full. Else prove '..UptoSaid'. A law counts once. -/
mutual
def uptoBulk {H : Type} : DataW H → Nat
  | .lit (.string bytes) => bytes.length + 1
  | .lit _ => 1
  | .nil => 1
  | .ptr d => uptoBulk d + 1
  | .slice elems spare => uptoBulkAll elems + uptoBulkAll spare + 1
  | .agg parts => uptoBulkAll parts + 1
  | .iface _ d => uptoBulk d + 1
  | .map entries => uptoBulkEntries entries + 1
  | .held _ => 1
def uptoBulkAll {H : Type} : List (DataW H) → Nat
  | [] => 0
  | d :: r => uptoBulk d + uptoBulkAll r
def uptoBulkEntries {H : Type} : List (Lit × DataW H) → Nat
  | [] => 0
  | x :: r => uptoBulkEntry x + uptoBulkEntries r
def uptoBulkEntry {H : Type} : Lit × DataW H → Nat
  | (.string bytes, d) => bytes.length + uptoBulk d + 1
  | (_, d) => uptoBulk d + 1
 end
def uptoSmall : (H : Type) → List (DataW H) → Bool := fun _ ds => decide (uptoBulkAll ds ≤ 1048576)
def OpenSpec.upto (s : _root_.Go.ChangeSpec) : _root_.Go.OpenSpec := { _root_.Go.OpenSpec.ofChange s with cond := some uptoSmall }

/-- 'florlaw2.StateChecks', WHERE WHAT IT READS IS OF BULK AT MOST 1048576: true; the input reads as it did. -/
def stateChecksUptoRow : OpenClaim := { program := "ytnellkdiafglgaadoor", sum := "e6a9b539ff63571d8b72f61d5b099e6841869d0bd9e1566625a5aed5332b7dc0", func := "florilegium/florlaw2.StateChecks", spec := "stateChecks", inPlace := ["internal/abi.NoEscape", "internal/bytealg.MakeNoZero"], unfollowed := true, recurses := true, named := ["internal/strconv.uint64pow10", "math/bits.deBruijn32tab", "math/bits.deBruijn64tab"], apart := false, laid := [("math/bits.deBruijn32tab", laid_math_bits_deBruijn32tab), ("math/bits.deBruijn64tab", laid_math_bits_deBruijn64tab), ("internal/strconv.uint64pow10", laid_internal_strconv_uint64pow10)], narrowed := true }
def StateChecksUptoSaid : Prop := stateChecksUptoRow.holds Tryd.pinned (OpenSpec.upto stateChecksSpec)

/-- 'florlaw2.StateReads', WHERE WHAT IT READS IS OF BULK AT MOST 1048576: true; the input reads as it did. -/
def stateReadsUptoRow : OpenClaim := { program := "ytnellkdiafglgaadoor", sum := "e6a9b539ff63571d8b72f61d5b099e6841869d0bd9e1566625a5aed5332b7dc0", func := "florilegium/florlaw2.StateReads", spec := "stateReads", inPlace := ["internal/bytealg.CountString", "internal/bytealg.IndexByteString", "internal/bytealg.IndexString"], unfollowed := true, recurses := true, named := ["unicode/utf8.first", "unicode/utf8.acceptRanges", "internal/bytealg.MaxLen", "strconv.ErrSyntax", "strconv.ErrRange", "internal/strconv.uint64pow10", "math/bits.deBruijn32tab", "math/bits.deBruijn64tab"], apart := false, laid := [("math/bits.deBruijn32tab", laid_math_bits_deBruijn32tab), ("math/bits.deBruijn64tab", laid_math_bits_deBruijn64tab), ("internal/strconv.uint64pow10", laid_internal_strconv_uint64pow10), ("unicode/utf8.acceptRanges", laid_unicode_utf8_acceptRanges), ("strconv.ErrRange", laid_strconv_ErrRange), ("strconv.ErrSyntax", laid_strconv_ErrSyntax), ("unicode/utf8.first", laid_unicode_utf8_first)], narrowed := true }
def StateReadsUptoSaid : Prop := stateReadsUptoRow.holds Tryd.pinned (OpenSpec.upto stateReadsSpec)

/-- 'florlaw2.StateGrades', WHERE WHAT IT READS IS OF BULK AT MOST 1048576: true; the input reads as it did. -/
def stateGradesUptoRow : OpenClaim := { program := "ytnellkdiafglgaadoor", sum := "e6a9b539ff63571d8b72f61d5b099e6841869d0bd9e1566625a5aed5332b7dc0", func := "florilegium/florlaw2.StateGrades", spec := "stateGrades", unfollowed := true, recurses := true, named := ["florilegium/card.easeChanges", "florilegium/card.firstSteps"], apart := false, laid := [("florilegium/card.firstSteps", laid_florilegium_card_firstSteps), ("florilegium/card.easeChanges", laid_florilegium_card_easeChanges)], narrowed := true }
def StateGradesUptoSaid : Prop := stateGradesUptoRow.holds Tryd.pinned (OpenSpec.upto stateGradesSpec)

/-- 'florlaw2.StateReplays', WHERE WHAT IT READS IS OF BULK AT MOST 1048576: true; the input reads as it did. -/
def stateReplaysUptoRow : OpenClaim := { program := "ytnellkdiafglgaadoor", sum := "e6a9b539ff63571d8b72f61d5b099e6841869d0bd9e1566625a5aed5332b7dc0", func := "florilegium/florlaw2.StateReplays", spec := "stateReplays", unfollowed := true, recurses := true, named := ["florilegium/card.easeChanges", "florilegium/card.firstSteps"], apart := false, laid := [("florilegium/card.firstSteps", laid_florilegium_card_firstSteps), ("florilegium/card.easeChanges", laid_florilegium_card_easeChanges)], narrowed := true }
def StateReplaysUptoSaid : Prop := stateReplaysUptoRow.holds Tryd.pinned (OpenSpec.upto stateReplaysSpec)

/-- 'florlaw2.CardGrades', WHERE WHAT IT READS IS OF BULK AT MOST 1048576: true; the input reads as it did. -/
def cardGradesUptoRow : OpenClaim := { program := "ytnellkdiafglgaadoor", sum := "e6a9b539ff63571d8b72f61d5b099e6841869d0bd9e1566625a5aed5332b7dc0", func := "florilegium/florlaw2.CardGrades", spec := "cardGrades", unfollowed := true, recurses := true, named := ["florilegium/card.easeChanges", "florilegium/card.firstSteps"], apart := false, laid := [("florilegium/card.firstSteps", laid_florilegium_card_firstSteps), ("florilegium/card.easeChanges", laid_florilegium_card_easeChanges)], narrowed := true }
def CardGradesUptoSaid : Prop := cardGradesUptoRow.holds Tryd.pinned (OpenSpec.upto cardGradesSpec)

/-- 'florkeep2.StateRound', WHERE WHAT IT READS IS OF BULK AT MOST 1048576: true; the input reads as it did. -/
def stateRoundUptoRow : OpenClaim := { program := "ytnellkdiafglgaadoor", sum := "e6a9b539ff63571d8b72f61d5b099e6841869d0bd9e1566625a5aed5332b7dc0", func := "florilegium/florkeep2.StateRound", spec := "stateRound", inPlace := ["internal/abi.NoEscape", "internal/bytealg.MakeNoZero", "internal/bytealg.CountString", "internal/bytealg.IndexByteString", "internal/bytealg.IndexString"], named := ["internal/strconv.uint64pow10", "math/bits.deBruijn32tab", "math/bits.deBruijn64tab", "unicode/utf8.first", "unicode/utf8.acceptRanges", "internal/bytealg.MaxLen", "strconv.ErrSyntax", "strconv.ErrRange"], apart := false, laid := [("math/bits.deBruijn32tab", laid_math_bits_deBruijn32tab), ("math/bits.deBruijn64tab", laid_math_bits_deBruijn64tab), ("internal/strconv.uint64pow10", laid_internal_strconv_uint64pow10), ("unicode/utf8.acceptRanges", laid_unicode_utf8_acceptRanges), ("strconv.ErrRange", laid_strconv_ErrRange), ("strconv.ErrSyntax", laid_strconv_ErrSyntax), ("unicode/utf8.first", laid_unicode_utf8_first)], narrowed := true }
def StateRoundUptoSaid : Prop := stateRoundUptoRow.holds Tryd.pinned (OpenSpec.upto stateRoundSpec)

/-- 'flortop.TopCards', WHERE WHAT IT READS IS OF BULK AT MOST 1048576: true; the input reads as it did. -/
def topCardsUptoRow : OpenClaim := { program := "ytnellkdiafglgaadoor", sum := "e6a9b539ff63571d8b72f61d5b099e6841869d0bd9e1566625a5aed5332b7dc0", func := "florilegium/flortop.TopCards", spec := "topCards", named := ["florilegium/card.easeChanges", "florilegium/card.firstSteps"], apart := false, laid := [("florilegium/card.firstSteps", laid_florilegium_card_firstSteps), ("florilegium/card.easeChanges", laid_florilegium_card_easeChanges)], narrowed := true }
def TopCardsUptoSaid : Prop := topCardsUptoRow.holds Tryd.pinned (OpenSpec.upto topCardsSpec)

end Rows
end Go.Proofs.YtnellkdiafglgaaDoor
