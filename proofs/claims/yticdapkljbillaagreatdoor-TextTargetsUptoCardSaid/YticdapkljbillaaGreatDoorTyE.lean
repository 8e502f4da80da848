/- The reference: classes of bytes. -/
import Derived.Test.YticdapkljbillaaGreatDoorTyD
import Derived.WalkKit
import Derived.Lib.Hide
import Derived.Outline
import Derived.Deep.QuietTactic
import Derived.BigQuiet
namespace Go.Proofs.YticdapkljbillaaGreatDoor
open Go.RowKit

set_option maxHeartbeats 1000000 in
theorem refDigit_any (c : UInt8) (w : World) :
    Calls Tryz.prog 49 #[.int .u8 c.toNat] w fun e w' => e = .returned (.bool (cDigit c)) ∧ w' = w := by
  go_enter Tryz.func49, Tryz.ntmps49
  go_wp2
  all_goals go_ret
  all_goals refine ⟨ret_bool ?_, rfl⟩
  all_goals rw [Bool.eq_iff_iff]
  all_goals simp [cDigit]
  all_goals omega

set_option maxHeartbeats 1000000 in
theorem refLetter_any (c : UInt8) (w : World) :
    Calls Tryz.prog 50 #[.int .u8 c.toNat] w fun e w' => e = .returned (.bool (cLetter c)) ∧ w' = w := by
  go_enter Tryz.func50, Tryz.ntmps50
  go_wp2
  all_goals go_ret
  all_goals refine ⟨ret_bool ?_, rfl⟩
  all_goals rw [Bool.eq_iff_iff]
  all_goals simp [cLetter]
  all_goals omega

set_option maxHeartbeats 1000000 in
theorem refPunct_any (c : UInt8) (w : World) :
    Calls Tryz.prog 46 #[.int .u8 c.toNat] w fun e w' => e = .returned (.bool (cPunct c)) ∧ w' = w := by
  go_enter Tryz.func46, Tryz.ntmps46
  go_wp2
  all_goals go_ret
  all_goals refine ⟨ret_bool ?_, rfl⟩
  all_goals rw [Bool.eq_iff_iff]
  all_goals simp [cPunct]
  all_goals omega
end Go.Proofs.YticdapkljbillaaGreatDoor
