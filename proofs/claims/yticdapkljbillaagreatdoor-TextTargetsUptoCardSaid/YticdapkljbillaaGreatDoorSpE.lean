/- Package text: Check on both sides, and the reference's EscapedOf. -/
import Derived.Test.YticdapkljbillaaGreatDoorSpD
import Derived.Test.YticdapkljbillaaGreatDoorTyF
import Derived.WalkKit
import Derived.Lib.Hide
import Derived.Outline
import Derived.Deep.QuietTactic
import Derived.BigQuiet
import Derived.Laws.DeepStrings4
namespace Go.Proofs.YticdapkljbillaaGreatDoor
open Go.RowKit

/-- A byte that Check refuses. -/
def ctl (s : ByteArray) : Bool := s.data.toList.any fun c => !cNoControl c
theorem takeWhile_any (p : UInt8 → Bool) : ∀ l : List UInt8, decide ((l.takeWhile p).length < l.length) = l.any fun c => !p c
  | [] => rfl
  | c :: l => by
    have h := takeWhile_any p l
    rw [List.takeWhile_cons, List.any_cons]
    cases hc : p c with
    | true => simpa using h
    | false => simp
theorem ctl_run (s : ByteArray) : decide (runTo cNoControl s 0 < s.size) = ctl s := by
  have h := takeWhile_any cNoControl s.data.toList
  unfold ctl
  rw [← h]
  unfold runTo
  rw [List.drop_zero, Nat.zero_add, Array.length_toList]
  rfl
theorem ctl_true {s : ByteArray} {k : Nat} (hk : k < s.size) (h : cNoControl s[k] = false) : ctl s = true := by
  unfold ctl
  rw [List.any_eq_true]
  exact ⟨s[k], mem_at hk, by simp [h]⟩
theorem ctl_false {s : ByteArray} (h : ∀ j (hj : j < s.size), cNoControl s[j] = true) : ctl s = false := by
  unfold ctl
  rw [List.any_eq_false]
  intro c hc
  obtain ⟨j, hj, rfl⟩ := at_mem hc
  simp [h j hj]

def checkV (s : ByteArray) : Int := if 2000 < s.size then 4 else if ctl s = true then 9 else 0
/-! ### EscapedOf -/
def escS (s : ByteArray) (k : Nat) : ByteArray := ⟨(escL (s.data.toList.take k)).toArray⟩
theorem escS_size (s : ByteArray) (k : Nat) : (escS s k).size ≤ 2 * s.size := by
  have h := escTake_len s k
  have e : (escS s k).size = (escL (s.data.toList.take k)).length := by simp [escS, ByteArray.size]
  omega
theorem cut_one {s : ByteArray} {k : Nat} (h : k < s.size) : (s.extract k (k + 1)).data.toList = [s[k]] := by
  rw [Lib.extract_eq]
  simp only
  rw [show k + 1 - k = 1 by omega, List.take_one, List.head?_drop, List.getElem?_eq_getElem (by rw [Array.length_toList]; exact h)]
  rfl
theorem escS_yes {s : ByteArray} {k : Nat} (h : k < s.size) (hi : 0 ≤ Lib.indexByte [92, 96, 91, 40, 35, 42] s[k]) : escS s (k + 1) = escS s k ++ ⟨#[92]⟩ ++ s.extract k (k + 1) := by
  apply ByteArray.ext
  apply Array.ext'
  rw [ByteArray.data_append, ByteArray.data_append, Array.toList_append, Array.toList_append, cut_one h]
  unfold escS
  rw [take_next s k h, escL_snoc]
  unfold escB
  rw [if_pos hi]
  simp
theorem escS_no {s : ByteArray} {k : Nat} (h : k < s.size) (hi : ¬ 0 ≤ Lib.indexByte [92, 96, 91, 40, 35, 42] s[k]) : escS s (k + 1) = escS s k ++ s.extract k (k + 1) := by
  apply ByteArray.ext
  apply Array.ext'
  rw [ByteArray.data_append, Array.toList_append, cut_one h]
  unfold escS
  rw [take_next s k h, escL_snoc]
  unfold escB
  rw [if_neg hi]

end Go.Proofs.YticdapkljbillaaGreatDoor
