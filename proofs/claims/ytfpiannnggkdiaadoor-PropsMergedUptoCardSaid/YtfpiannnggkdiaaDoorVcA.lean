/- The reference's comparison: by recursion through slices.CompareFunc. -/
import Derived.Test.YtfpiannnggkdiaaDoorValX
import Derived.Test.YtfpiannnggkdiaaDoorShelf
import Derived.WalkKit
import Derived.Lib.Hide
import Derived.Below
import Derived.StillTailTactics
import Derived.Deep.LoopGhost
namespace Go.Proofs.YtfpiannnggkdiaaDoor.Vl
open Go.RowKit
open Go.Proofs.YtfpiannnggkdiaaDoor.Vals

theorem cmpBytes_list : ∀ a b : List UInt8, Lib.compareBytes a b = if a < b then -1 else if b < a then 1 else 0
  | [], [] => by simp [Lib.compareBytes, List.lt_irrefl]
  | [], _ :: _ => by simp [Lib.compareBytes]
  | _ :: _, [] => by simp [Lib.compareBytes]
  | x :: a, y :: b => by
    unfold Lib.compareBytes
    rw [cmpBytes_list a b]
    simp only [List.cons_lt_cons_iff]
    by_cases h : x < y
    · simp [h]
    · by_cases g : y < x
      · have : x ≠ y := fun e => by subst e; exact h g
        simp [h, g, this]
      · have : x = y := UInt8.le_antisymm (UInt8.not_lt.1 g) (UInt8.not_lt.1 h)
        subst this
        simp [UInt8.lt_irrefl]
theorem RowAt.get {w : World} {B : Nat} : ∀ (l : List V) (b off k : Nat), RowAt w B l b off → k < l.length → ∃ x, l[k]? = some x ∧ CellsAt w B x b (off + k * 5)
  | [], _, _, _, _, h => absurd h (by simp)
  | x :: xs, b, off, 0, h, _ => by
    unfold RowAt at h
    exact ⟨x, rfl, by simpa using h.1⟩
  | x :: xs, b, off, k + 1, h, hk => by
    unfold RowAt at h
    obtain ⟨y, h1, h2⟩ := RowAt.get xs b (off + 5) k h.2 (by simpa using hk)
    exact ⟨y, by simpa using h1, by rw [show off + (k + 1) * 5 = off + 5 + k * 5 by omega]; exact h2⟩
theorem sizeL_get : ∀ (l : List V) (k : Nat) (x : V), l[k]? = some x → sizeV x ≤ sizeL l
  | [], _, _, h => by simp at h
  | y :: l, 0, x, h => by simp at h; subst h; unfold sizeL; omega
  | y :: l, k + 1, x, h => by
    unfold sizeL
    have := sizeL_get l k x (by simpa using h)
    omega
theorem cmpL_step {a b : List V} {k : Nat} {x y : V} (hx : a[k]? = some x) (hy : b[k]? = some y) : cmpL (a.drop k) (b.drop k) = orI (cmpV x y) (cmpL (a.drop (k + 1)) (b.drop (k + 1))) := by
  obtain ⟨h1, e1⟩ := List.getElem?_eq_some_iff.1 hx
  obtain ⟨h2, e2⟩ := List.getElem?_eq_some_iff.1 hy
  rw [List.drop_eq_getElem_cons h1, List.drop_eq_getElem_cons h2, e1, e2, cmpL]
theorem cmpL_out {a b : List V} {k : Nat} (h : a.length ≤ k ∨ b.length ≤ k) : cmpL (a.drop k) (b.drop k) = cmpI ((a.length - k : Nat) : Int) ((b.length - k : Nat) : Int) := by
  rw [cmpL_ends (by rcases h with h | h; exact .inl (List.drop_of_length_le h); exact .inr (List.drop_of_length_le h)), List.length_drop, List.length_drop]
/-- A value's five cells are the value in hand. -/
theorem CellsAt.hand {w : World} {B : Nat} {x : V} {b off : Nat} (h : CellsAt w B x b off) :
    ∃ k i t s A n c, b < B ∧ w.cell? ⟨b, off, none⟩ = some (.int .i64 k) ∧ w.cell? ⟨b, off + 1, none⟩ = some (.int .i64 i) ∧ w.cell? ⟨b, off + 2, none⟩ = some (.int .i64 t) ∧ w.cell? ⟨b, off + 3, none⟩ = some (.string s) ∧ w.cell? ⟨b, off + 4, none⟩ = some (.slice A n c) ∧
      VAt w B x (.agg #[.int .i64 k, .int .i64 i, .int .i64 t, .string s, .slice A n c]) := by
  obtain ⟨k, i, t, s, l⟩ := x
  unfold CellsAt at h
  obtain ⟨h0, h1, h2, h3, h4, A, c, h5, h6, h7, h8⟩ := h
  exact ⟨k, i, t, s, A, l.length, c, h0, h1, h2, h3, h4, h5, _, rfl, A, c, rfl, h6, h7, h8⟩

end Go.Proofs.YtfpiannnggkdiaaDoor.Vl
