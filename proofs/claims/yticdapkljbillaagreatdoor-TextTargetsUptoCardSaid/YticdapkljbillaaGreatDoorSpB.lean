/- Package text: Links, Tags, Refs: the lists that the program gives. -/
import Derived.Test.YticdapkljbillaaGreatDoorSpA
import Derived.WalkKit
import Derived.Lib.Hide
import Derived.Outline
import Derived.Deep.QuietTactic
import Derived.BigQuiet
import Derived.Deep.RegionHeld3
namespace Go.Proofs.YticdapkljbillaaGreatDoor
open Go.RowKit

theorem cut_len {s : ByteArray} {done post : List Sp} {x : Sp} (ha : spans s = done ++ x :: post) : done.length + 1 ≤ s.size := by
  have hc := spans_count (spans_row s)
  rw [ha, List.length_append, List.length_cons] at hc
  omega
/-- A list of values of one cell is handed back. -/
def GivesRow (E : TypeId) (c : List Value) (w : World) (e : Ending) (w' : World) : Prop :=
  ∃ v, e = .returned v ∧ w'.ownsRow w.heap.size E 1 v c.length c ∧ Below w.heap.size w w'
theorem VList.row {T E : TypeId} {B B0 : Nat} {c : List Value} {F : Nat → Prop} {w : World} (h : VList T E B c F w) (hlo : ∀ k, F k → B0 ≤ k) : ∃ ao n cap, w.cell? ⟨B, 0, none⟩ = some (.slice ao n cap) ∧ w.ownsRow B0 E 1 (.slice ao n cap) c.length c := by
  obtain ⟨v, hB, hown, hne, hF⟩ := h
  have h2 : w.ownsRow B0 E 1 v c.length c := by
    refine ⟨hown.1, ?_⟩
    rcases hown.2 with h | ⟨g, cap, cur, hv, _, h2⟩
    · exact .inl h
    · exact .inr ⟨g, cap, cur, hv, hlo g (by rw [hF]; exact .inr (by rw [hv]; rfl)), h2⟩
  rcases hown.2 with ⟨hv, _⟩ | ⟨g, cap, cur, hv, _⟩
  · exact ⟨_, _, _, by rw [← hv]; exact hB.cell, by rw [← hv]; exact h2⟩
  · exact ⟨_, _, _, by rw [← hv]; exact hB.cell, by rw [← hv]; exact h2⟩

theorem own_slice' {w : World} {base n size : Nat} {e : TypeId} {v : Value} {xs : List Value} (h : w.ownsRow base e size v n xs) : ∃ A c, v = .slice A n c ∧ True := by
  rcases h.2 with ⟨h0, h1⟩ | ⟨g, cap, cur, e1, _⟩
  · exact ⟨none, 0, by rw [h0, h1], trivial⟩
  · exact ⟨_, cap, e1, trivial⟩
theorem GivesRow.mono_calls {E : TypeId} {c : List Value} {w : World} {e : Ending} {w' : World} (h : GivesRow E c w e w') : ∃ v, e = .returned v ∧ w'.ownsRow w.heap.size E 1 v c.length c ∧ Below w.heap.size w w' := h
end Go.Proofs.YticdapkljbillaaGreatDoor
