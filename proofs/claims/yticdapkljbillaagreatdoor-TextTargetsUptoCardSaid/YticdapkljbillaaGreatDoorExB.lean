/- The reference's PlainText. -/
import Derived.Test.YticdapkljbillaaGreatDoorTzQ
import Derived.Test.YticdapkljbillaaGreatDoorTyA
import Derived.WalkKit
import Derived.Lib.Hide
import Derived.Outline
import Derived.Deep.DeepCutAuto
import Derived.Deep.CutBlock
import Derived.Deep.LoopGhost
import Derived.Deep.QuietTactic
import Derived.BigQuiet
import Derived.BigRegion
import Derived.Lib.SmallJoins
namespace Go.Proofs.YticdapkljbillaaGreatDoor
open Go.RowKit

theorem sp_len {s : ByteArray} : ∀ {a b : Nat} {l : List Sp}, SpRow s a l b → l.length + a ≤ b
  | a, b, [], h => by have : a = b := h; simp; omega
  | a, b, x :: r, h => by
    have h1 := sp_len h.2.2
    have h2 := h.2.1.lt
    have h3 := h.1
    simp only [List.length_cons]; omega
theorem sps_len (s : ByteArray) : (spans s).length ≤ s.size := by have := sp_len (spans_row s); omega
theorem sps_in (s : ByteArray) : ∀ x ∈ spans s, SpIn s x := (spans_row s).mem

/-- What is shown of the first j spans. -/
def accS (s : ByteArray) (j : Nat) : ByteArray := ⟨(shownL s ((spans s).take j)).toArray⟩
theorem accS_size (s : ByteArray) (j : Nat) : (accS s j).size ≤ s.size := by
  have h := shown_le s _ _ (List.take_append_drop j (spans s)).symm
  have e : (accS s j).size = (shownL s ((spans s).take j)).length := by simp [accS, ByteArray.size]
  omega
theorem accS_step {s : ByteArray} {j : Nat} (h : j < (spans s).length) : accS s (j + 1) = accS s j ++ refStr (spans s)[j] := by
  have e := (spans_ref s _ (List.getElem_mem h)).str
  apply ByteArray.ext
  unfold accS
  rw [List.take_succ_eq_append_getElem h]
  unfold shownL
  rw [List.flatMap_append, List.flatMap_singleton]
  rw [ByteArray.data_append, e]
  unfold shownB
  apply Array.ext'
  simp
theorem accS_end (s : ByteArray) : accS s (spans s).length = ⟨(shownL s (spans s)).toArray⟩ := by unfold accS; rw [List.take_length]

/-- At the head of each round. -/
structure PtRow (s : ByteArray) (w2 : World) (j : Nat) (wx : World) : Prop where
  le : j ≤ (spans s).length
  bel : Below w2.heap.size w2 wx

end Go.Proofs.YticdapkljbillaaGreatDoor
