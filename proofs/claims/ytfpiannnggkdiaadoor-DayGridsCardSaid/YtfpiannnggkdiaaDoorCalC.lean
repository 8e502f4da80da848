/- The calendar: the program's functions from a day to its date, and back. -/
import Derived.Test.YtfpiannnggkdiaaDoorCalB
import Derived.WalkKit
import Derived.Lib.Hide
namespace Go.Proofs.YtfpiannnggkdiaaDoor
open Go.RowKit

set_option maxHeartbeats 400000 in
theorem isDayC_any (d : Int) (w : World) :
    Calls Tryd.prog 104 #[.int .i64 d] w fun e w' => e = .returned (.bool (decide (0 ≤ d ∧ d ≤ 100000))) ∧ w = w' := by
  go_enter Tryd.func104, Tryd.ntmps104
  go_wp2
  all_goals go_ret
  all_goals refine ⟨ret_boolC ?_, rfl⟩
  all_goals (simp [*] <;> omega)

theorem isDay_yes (d : Int) (w : World) (h0 : 0 ≤ d) (h1 : d ≤ 100000) :
    Calls Tryd.prog 104 #[.int .i64 d] w fun e w' => e = .returned (.bool true) ∧ w = w' :=
  (isDayC_any d w).mono fun _ _ ⟨h, g⟩ => ⟨by rw [h]; simp [h0, h1], g⟩
theorem isDay_no (d : Int) (w : World) (h : d < 0 ∨ 100000 < d) :
    Calls Tryd.prog 104 #[.int .i64 d] w fun e w' => e = .returned (.bool false) ∧ w = w' :=
  (isDayC_any d w).mono fun _ _ ⟨h, g⟩ => ⟨by rw [h]; congr; simp; omega, g⟩

end Go.Proofs.YtfpiannnggkdiaaDoor
