/- Package text: Escaped, on both sides. -/
import Derived.Test.YticdapkljbillaaGreatDoorTyD
import Derived.Test.YticdapkljbillaaGreatDoorTxM
import Derived.Test.YticdapkljbillaaGreatDoorShelf
import Derived.WalkKit
import Derived.Lib.Hide
import Derived.Outline
import Derived.Deep.QuietTactic
import Derived.BigQuiet
import Derived.Deep.RegionHeld3
import Derived.Laws.EntriesVeiled
namespace Go.Proofs.YticdapkljbillaaGreatDoor
open Go.RowKit

/-- One byte is written. -/
def WroteB (b : Nat) (bs : List Value) (c : Int) (F : Nat → Prop) (w : World) (e : Ending) (w' : World) : Prop :=
  e = .returned .nilIface ∧ ∃ F', Bld b (bs ++ [.int .u8 c]) F' w' ∧ Grew F w F' w'

/-! ### Escaped -/
def escB (c : UInt8) : List UInt8 := if 0 ≤ Lib.indexByte [92, 96, 91, 40, 35, 42] c then [92, c] else [c]
def escL (l : List UInt8) : List UInt8 := l.flatMap escB
theorem escB_len (c : UInt8) : (escB c).length ≤ 2 := by unfold escB; split <;> simp
theorem escL_len : ∀ l : List UInt8, (escL l).length ≤ 2 * l.length
  | [] => by simp [escL]
  | c :: l => by
    have h1 := escL_len l
    have h2 := escB_len c
    unfold escL at h1 ⊢
    rw [List.flatMap_cons, List.length_append, List.length_cons]
    omega
theorem escL_snoc (l : List UInt8) (c : UInt8) : escL (l ++ [c]) = escL l ++ escB c := by unfold escL; rw [List.flatMap_append, List.flatMap_singleton]
theorem take_next (s : ByteArray) (k : Nat) (h : k < s.size) : s.data.toList.take (k + 1) = s.data.toList.take k ++ [s[k]] := by
  rw [List.take_succ_eq_append_getElem (by rw [Array.length_toList]; exact h)]; rfl
theorem byteCells_app (a b : List UInt8) : Lib.byteCells (a ++ b) = Lib.byteCells a ++ Lib.byteCells b := by simp [Lib.byteCells]
theorem byteCells_one (c : UInt8) : Lib.byteCells [c] = [.int .u8 (c.toNat : Int)] := rfl
theorem byteCells_len (a : List UInt8) : (Lib.byteCells a).length = a.length := by simp [Lib.byteCells]
theorem escTake_len (s : ByteArray) (k : Nat) : (escL (s.data.toList.take k)).length ≤ 2 * s.size := by
  have h1 := escL_len (s.data.toList.take k)
  have h2 := List.length_take_le k s.data.toList
  have h3 := List.length_take_le' k s.data.toList
  have h4 : s.data.toList.length = s.size := by rw [Array.length_toList]; rfl
  omega

/-- At the head of each round. -/
def EscRow (s : ByteArray) (w : World) (k : Nat) (wr : World) : Prop :=
  ∃ F, Bld w.heap.size (Lib.byteCells (escL (s.data.toList.take k))) F wr ∧ (∀ k, F k → w.heap.size ≤ k) ∧ Below w.heap.size w wr
theorem EscRow.wrote {s : ByteArray} {w wr w2 : World} {bs : List Value} {F F2 : Nat → Prop} (hlo : ∀ k, F k → w.heap.size ≤ k) (hb : Below w.heap.size w wr) (hB : Bld w.heap.size bs F2 w2) (hg : Grew F wr F2 w2) :
    (∀ k, F2 k → w.heap.size ≤ k) ∧ Below w.heap.size w w2 := by
  refine ⟨fun k hk => ?_, hb.trans (hg.out.below hb.size hlo)⟩
  rcases hg.new k hk with h | h
  · exact hlo k h
  · exact Nat.le_trans hb.size h

end Go.Proofs.YticdapkljbillaaGreatDoor
