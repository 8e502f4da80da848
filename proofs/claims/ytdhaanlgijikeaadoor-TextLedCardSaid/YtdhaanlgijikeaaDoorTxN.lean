/- Package text, part 14: the package is there: PlainOf("a") is "a". -/
import Derived.Test.YtdhaanlgijikeaaDoorTxM
import Derived.WalkKit
import Derived.Lib.Hide
import Derived.Outline
namespace Go.Proofs.YtdhaanlgijikeaaDoor
open Go.RowKit

def strA : ByteArray := ⟨#[97]⟩
theorem spans_a : spans strA = [⟨1, 0, 1, ⟨#[97]⟩, ⟨#[]⟩, 0, false⟩] := by kernel_rfl

theorem ok_a : ∀ x ∈ spans strA, SpOk strA x := by
  rw [spans_a]
  intro x hx
  rw [List.mem_singleton] at hx
  subst hx
  have h1 : shFrom ⟨1, 0, 1, ⟨#[97]⟩, ⟨#[]⟩, 0, false⟩ = 0 := rfl
  have h2 : shTo ⟨1, 0, 1, ⟨#[97]⟩, ⟨#[]⟩, 0, false⟩ = 1 := rfl
  have h3 : strA.size = 1 := rfl
  exact ⟨by decide, by decide, by decide, by decide, by rw [h1]; omega, by rw [h1, h2]; omega, by rw [h2, h3]; omega⟩
theorem len_a : ∀ pre post, spans strA = pre ++ post → (shownL strA pre).length ≤ strA.size := by
  intro pre post h
  rw [spans_a] at h
  rcases pre with _ | ⟨x, r⟩
  · simp [shownL]
  · simp only [List.cons_append, List.cons.injEq] at h
    obtain ⟨rfl, h⟩ := h
    have hr : r = [] := by
      rcases r with _ | ⟨y, r⟩
      · rfl
      · simp at h
    subst hr
    decide +kernel
theorem shown_a : (⟨(shownL strA (spans strA)).toArray⟩ : ByteArray) = ⟨#[97]⟩ := by kernel_rfl

theorem awakeText_any (w : World) : Calls Tryd.prog 4 #[] w (Quiet w (.bool true)) := by
  have HP := Lib.hid (fun W => plainOf_any strA W (by decide) ok_a len_a)
  rw [shown_a] at HP
  unfold strA at HP
  go_enter Tryd.func4, Tryd.ntmps4
  go_wp2_with fail
  refine (HP.out _).mono ?_
  rintro e1 w1 ⟨rfl, hb1⟩
  have HB := Lib.hid hb1
  clear hb1
  go_wp2
  go_ret
  exact ⟨rfl, HB.out⟩
end Go.Proofs.YtdhaanlgijikeaaDoor
