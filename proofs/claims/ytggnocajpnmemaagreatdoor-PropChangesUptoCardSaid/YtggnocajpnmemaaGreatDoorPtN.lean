/- Properties in memory; CheckProps. -/
import Derived.Test.YtggnocajpnmemaaGreatDoorPtM
import Derived.WalkKit
import Derived.Lib.Hide
import Derived.Outline
import Derived.Below
import Derived.Deep.DeepCutAuto
import Derived.Deep.CutBlock
import Derived.Deep.LoopGhost
import Derived.Deep.QuietTactic
import Derived.BigQuiet
namespace Go.Proofs.YtggnocajpnmemaaGreatDoor
open Go.RowKit Go.Shelf

/-! ### What CheckProps finds -/
def leB (a b : ByteArray) : Bool := Op.bytesLess a.toList b.toList || a.toList == b.toList
def itemP (prev : Option ByteArray) (p : PV) : Int :=
  if nameOk p.nm = false then 3 else if (match prev with | none => false | some q => leB p.nm q) = true then 5 else if p.val.kind = 0 then 10 else valueE p.val
def propsFrom : Option ByteArray → List PV → Int
  | _, [] => 0
  | prev, p :: r => if itemP prev p = 0 then propsFrom (some p.nm) r else itemP prev p
def propsE (l : List PV) : Int := if 20 < l.length then 4 else propsFrom none l
structure PlRow (l : List PV) (w : World) (j : Nat) (wx : World) : Prop where
  le : j ≤ l.length
  bad : propsFrom none l = propsFrom (prevOf l j) (l.drop j)
  bel : Below w.heap.size w wx
theorem props_at {l : List PV} {j : Nat} (hj : j < l.length) (h : propsFrom none l = propsFrom (prevOf l j) (l.drop j)) (h0 : itemP (prevOf l j) l[j] = 0) : propsFrom none l = propsFrom (prevOf l (j + 1)) (l.drop (j + 1)) := by
  rw [h, List.drop_eq_getElem_cons hj, propsFrom, if_pos h0]
  show _ = propsFrom ((l[j]?).map (·.nm)) _
  rw [List.getElem?_eq_getElem hj]; rfl
theorem props_hit {l : List PV} {j : Nat} (hj : j < l.length) (h : propsFrom none l = propsFrom (prevOf l j) (l.drop j)) (h0 : itemP (prevOf l j) l[j] ≠ 0) : propsFrom none l = itemP (prevOf l j) l[j] := by
  rw [h, List.drop_eq_getElem_cons hj, propsFrom, if_neg h0]
theorem props_end {l : List PV} {j : Nat} (hj : j = l.length) (h : propsFrom none l = propsFrom (prevOf l j) (l.drop j)) : propsFrom none l = 0 := by
  rw [h, hj, List.drop_length]; rfl
end Go.Proofs.YtggnocajpnmemaaGreatDoor
