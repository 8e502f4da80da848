/- Package text: the targets, the tags and the references of a string: what the program's visitors append. -/
import Derived.Test.YticdapkljbillaaGreatDoorTyD
import Derived.WalkKit
import Derived.Lib.Hide
import Derived.Outline
import Derived.Deep.QuietTactic
import Derived.BigQuiet
import Derived.Deep.RegionHeld3
namespace Go.Proofs.YticdapkljbillaaGreatDoor
open Go.RowKit

theorem infoStrT : (Tryz.prog.info? 9).map (fun i => (i.zero, i.size, i.bytes)) = some (some (.string ⟨#[]⟩), 1, 16) := by kernel_rfl
theorem infoIntT : (Tryz.prog.info? 3).map (fun i => (i.zero, i.size, i.bytes)) = some (some (.int .i64 0), 1, 8) := by kernel_rfl

/-- The texts of the spans of a kind. -/
def txtL (k : Nat) (l : List Sp) : List ByteArray := (l.filter fun x => x.kind == k).map Sp.text
def idL (l : List Sp) : List Nat := (l.filter fun x => x.kind == 5).map Sp.id
def strs (l : List ByteArray) : List Value := l.map Value.string
def nats (l : List Nat) : List Value := l.map fun (n : Nat) => Value.int .i64 n
theorem strs_len (l : List ByteArray) : (strs l).length = l.length := by simp [strs]
theorem nats_len (l : List Nat) : (nats l).length = l.length := by simp [nats]
theorem strs_app (a b : List ByteArray) : strs (a ++ b) = strs a ++ strs b := by simp [strs]
theorem nats_app (a b : List Nat) : nats (a ++ b) = nats a ++ nats b := by simp [nats]
theorem txtL_snoc (k : Nat) (l : List Sp) (x : Sp) : txtL k (l ++ [x]) = if x.kind = k then txtL k l ++ [x.text] else txtL k l := by
  unfold txtL
  rw [List.filter_append]
  by_cases h : x.kind = k <;> simp [List.filter_cons, h]
theorem idL_snoc (l : List Sp) (x : Sp) : idL (l ++ [x]) = if x.kind = 5 then idL l ++ [x.id] else idL l := by
  unfold idL
  rw [List.filter_append]
  by_cases h : x.kind = 5 <;> simp [List.filter_cons, h]
theorem txtL_len (k : Nat) (l : List Sp) : (txtL k l).length ≤ l.length := by
  unfold txtL; rw [List.length_map]; exact List.length_filter_le _ _
theorem idL_len (l : List Sp) : (idL l).length ≤ l.length := by
  unfold idL; rw [List.length_map]; exact List.length_filter_le _ _

/-- A list of values of one cell whose header is in block B; F names its blocks; G is a block beside it, that is only read. -/
def VList (T E : TypeId) (B : Nat) (c : List Value) (F : Nat → Prop) (w : World) : Prop :=
  ∃ v, One w B v T ∧ w.ownsRow 0 E 1 v c.length c ∧ v.ownBlock ≠ some B ∧ F = fun k => k = B ∨ v.ownBlock = some k
theorem VList.lt {T E : TypeId} {B : Nat} {c : List Value} {F : Nat → Prop} {w : World} (h : VList T E B c F w) : ∀ k, F k → k < w.heap.size := by
  obtain ⟨v, hB, hown, _, rfl⟩ := h
  rintro k (rfl | hk)
  · exact hB.lt
  · exact (hown.lt k hk).2
theorem VList.loc {T E : TypeId} {B : Nat} {c : List Value} {F : Nat → Prop} {w w' : World} (h : VList T E B c F w) (hk : ∀ k, F k → w'.heap[k]? = w.heap[k]?) : VList T E B c F w' := by
  obtain ⟨v, hB, hown, hne, rfl⟩ := h
  exact ⟨v, hB.kept (hk B (.inl rfl)), ownsRow_kept hown (fun k h => hk k (.inr h)), hne, rfl⟩

def RefsI (B : Nat) (l : List Sp) (F : Nat → Prop) (w : World) : Prop := VList 22 3 B (nats (idL l)) F w

/-- One value is appended. -/
def VAdded (T E : TypeId) (B : Nat) (c : List Value) (F : Nat → Prop) (w : World) (e : Ending) (w' : World) : Prop :=
  e = .returned (.tuple #[]) ∧ ∃ F', VList T E B c F' w' ∧ Grew F w F' w'

end Go.Proofs.YticdapkljbillaaGreatDoor
