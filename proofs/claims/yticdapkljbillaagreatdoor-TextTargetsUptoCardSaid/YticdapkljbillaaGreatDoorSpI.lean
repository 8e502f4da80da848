/- The reference's lists: textsOf, RefsOf, LinksOf, TagsOf. -/
import Derived.Test.YticdapkljbillaaGreatDoorExB
import Derived.Test.YticdapkljbillaaGreatDoorSpB
import Derived.WalkKit
import Derived.Lib.Hide
import Derived.Outline
import Derived.Deep.DeepCutAuto
import Derived.Deep.CutBlock
import Derived.Deep.LoopGhost
import Derived.Deep.QuietTactic
import Derived.BigQuiet
import Derived.BigRegion
import Derived.Lib.SmallJoins
namespace Go.Proofs.YticdapkljbillaaGreatDoor
open Go.RowKit

theorem txtL_take {kd : Nat} {l : List Sp} {j : Nat} (h : j < l.length) : txtL kd (l.take (j + 1)) = if l[j].kind = kd then txtL kd (l.take j) ++ [l[j].text] else txtL kd (l.take j) := by
  rw [List.take_succ_eq_append_getElem h, txtL_snoc]
theorem idL_take {l : List Sp} {j : Nat} (h : j < l.length) : idL (l.take (j + 1)) = if l[j].kind = 5 then idL (l.take j) ++ [l[j].id] else idL (l.take j) := by
  rw [List.take_succ_eq_append_getElem h, idL_snoc]
theorem take_len (s : ByteArray) (j : Nat) : ((spans s).take j).length ≤ s.size := by
  have h1 := List.length_take_le' j (spans s)
  have h2 := sps_len s
  omega
/-- At the head of each round. -/
structure VRow (E : TypeId) (s : ByteArray) (c : List Value) (w2 : World) (j : Nat) (v : Value) (wx : World) : Prop where
  le : j ≤ (spans s).length
  own : wx.ownsRow w2.heap.size E 1 v c.length c
  bel : Below w2.heap.size w2 wx

end Go.Proofs.YticdapkljbillaaGreatDoor
