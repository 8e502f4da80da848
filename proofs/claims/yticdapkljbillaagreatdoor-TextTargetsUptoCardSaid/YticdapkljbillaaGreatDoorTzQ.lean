/- The reference's shown. -/
import Derived.Test.YticdapkljbillaaGreatDoorTzP
import Derived.WalkKit
import Derived.Lib.Hide
import Derived.Outline
import Derived.Deep.DeepCutAuto
import Derived.Deep.CutBlock
import Derived.Deep.LoopGhost
import Derived.Deep.QuietTactic
import Derived.BigQuiet
import Derived.BigRegion
import Derived.Lib.SmallJoins
namespace Go.Proofs.YticdapkljbillaaGreatDoor
open Go.RowKit

theorem infoInt : (Tryz.prog.info? 3).map (fun i => (i.zero, i.size, i.bytes)) = some (some (.int .i64 0), 1, 8) := by kernel_rfl

def ints (l : List Int) : List Value := l.map (Value.int .i64)
def upL (F n : Nat) : List Int := (List.range n).map fun i => ((F + i : Nat) : Int)
theorem upL_len (F n : Nat) : (upL F n).length = n := by simp [upL]
theorem ints_len (l : List Int) : (ints l).length = l.length := by simp [ints]
theorem upL_succ (F n : Nat) : upL F (n + 1) = upL F n ++ [((F + n : Nat) : Int)] := by
  unfold upL; rw [List.range_succ, List.map_append]; rfl
theorem ints_app (a b : List Int) : ints (a ++ b) = ints a ++ ints b := by simp [ints]

def ShownRow (F n : Nat) (w : World) (v : Value) (wr : World) : Prop :=
  wr.ownsRow w.heap.size 3 1 v n (ints (upL F n)) ∧ Below w.heap.size w wr

end Go.Proofs.YticdapkljbillaaGreatDoor
