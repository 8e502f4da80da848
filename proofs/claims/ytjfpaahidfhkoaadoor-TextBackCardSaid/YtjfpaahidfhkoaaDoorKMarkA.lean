/- TextMarks, part 1: what one mark becomes. -/
import Derived.Test.YtjfpaahidfhkoaaDoorRows
import Derived.WalkKit
namespace Go.Proofs.YtjfpaahidfhkoaaDoor.Km
open Go.RowKit

theorem ret_int {k : IntKind} {a b : Int} (h : a = b) : Ending.returned (.int k a) = .returned (.int k b) := by rw [h]

/-- Where a mark is after an edit. -/
def shM (m f t : Int) (n : Nat) (a : Bool) : Int :=
  if m < 0 ∨ 2000 < m ∨ f < 0 ∨ t < f ∨ m < f then m
  else if t < m then m - (t - f) + n else if a = true then f + n else f

theorem shM_id {m f t : Int} {n : Nat} {a : Bool} (h : m < 0 ∨ 2000 < m ∨ f < 0 ∨ t < f ∨ m < f) : shM m f t n a = m := by
  unfold shM; rw [if_pos h]
theorem shM_far {m f t : Int} {n : Nat} {a : Bool} (h : ¬ (m < 0 ∨ 2000 < m ∨ f < 0 ∨ t < f ∨ m < f)) (h2 : t < m) : shM m f t n a = m - (t - f) + n := by
  unfold shM; rw [if_neg h, if_pos h2]
theorem shM_in {m f t : Int} {n : Nat} {a : Bool} (h : ¬ (m < 0 ∨ 2000 < m ∨ f < 0 ∨ t < f ∨ m < f)) (h2 : ¬ t < m) : shM m f t n a = if a = true then f + n else f := by
  unfold shM; rw [if_neg h, if_neg h2]

set_option maxHeartbeats 400000 in
theorem shiftMark_any (m f t : Int) (s : ByteArray) (a : Bool) (w : World) (hs : s.size ≤ 140737488351232) :
    Calls Tryd.prog 39 #[.int .i64 m, .agg #[.int .i64 f, .int .i64 t, .string s], .bool a] w fun e w' =>
      e = .returned (.int .i64 (shM m f t s.size a)) ∧ w' = w.alloc (.cells #[.int .i64 f, .int .i64 t, .string s] 46) := by
  go_enter Tryd.func39, Tryd.ntmps39
  go_wp2
  all_goals go_ret
  all_goals refine ⟨ret_int ?_, rfl⟩
  all_goals first
    | (rw [shM_id (by omega)]; done)
    | (rw [shM_far (by omega) (by assumption)]; done)
    | (rw [shM_in (by omega) (by omega)]; simp [*]; done)

end Go.Proofs.YtjfpaahidfhkoaaDoor.Km
