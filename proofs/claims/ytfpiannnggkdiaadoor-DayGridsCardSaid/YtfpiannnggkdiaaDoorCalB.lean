/- The calendar: the program's functions of a year and a month. -/
import Derived.Test.YtfpiannnggkdiaaDoorProg
import Derived.Test.YtfpiannnggkdiaaDoorCalA
import Derived.WalkKit
import Derived.Lib.Hide
namespace Go.Proofs.YtfpiannnggkdiaaDoor
open Go.RowKit

theorem ret_intC {k : IntKind} {a b : Int} (h : a = b) : Ending.returned (.int k a) = .returned (.int k b) := by rw [h]
theorem ret_boolC {a b : Bool} (h : a = b) : Ending.returned (.bool a) = .returned (.bool b) := by rw [h]

set_option maxHeartbeats 400000 in
theorem isLeap_any (y : Int) (w : World) (h0 : 0 ≤ y) :
    Calls Tryd.prog 69 #[.int .i64 y] w fun e w' => e = .returned (.bool (Cal.leapB y)) ∧ w = w' := by
  have H : Hid (Cal.leapB y = decide (y % 4 = 0 ∧ (y % 100 ≠ 0 ∨ y % 400 = 0))) := Lib.hid rfl
  go_enter Tryd.func69, Tryd.ntmps69
  go_wp2
  all_goals go_ret
  all_goals refine ⟨ret_boolC ?_, rfl⟩
  all_goals (rw [H.out]; simp [*])
  all_goals rfl

set_option maxHeartbeats 400000 in
theorem leapYears_any (y : Int) (w : World) (h0 : 0 ≤ y) (h1 : y ≤ 20000) :
    Calls Tryd.prog 70 #[.int .i64 y] w fun e w' => e = .returned (.int .i64 (Cal.lys y)) ∧ w = w' := by
  go_enter Tryd.func70, Tryd.ntmps70
  go_wp2
  go_ret
  exact ⟨ret_intC rfl, rfl⟩

theorem lys_bd (y : Int) (h0 : 0 ≤ y) (h1 : y ≤ 20000) : 0 ≤ Cal.lys y ∧ Cal.lys y ≤ 20000 := by unfold Cal.lys; omega

set_option maxHeartbeats 400000 in
theorem yearStart_any (y : Int) (w : World) (h0 : 2001 ≤ y) (h1 : y ≤ 12000) :
    Calls Tryd.prog 48 #[.int .i64 y] w fun e w' => e = .returned (.int .i64 (Cal.ys y)) ∧ w = w' := by
  have b1 := lys_bd (y - 1) (by omega) (by omega)
  have b2 := lys_bd 2000 (by omega) (by omega)
  go_enter Tryd.func48, Tryd.ntmps48
  go_wp2_with (go_at_call 70; refine (leapYears_any _ _ (by omega) (by omega)).mono ?_; rintro e w' ⟨rfl, rfl⟩)
  go_ret
  exact ⟨ret_intC rfl, rfl⟩

/-- The table of the months' lengths lies where it was laid. -/
def tab : List Int := [31, 28, 31, 30, 31, 30, 31, 31, 30, 31, 30, 31]
def Tab (w : World) : Prop := ∀ i : Nat, i < 12 → w.cell? ⟨1, i, none⟩ = some (.int .i64 (tab.getD i 0))

theorem tab_ml (y : Int) (m : Nat) (h : m < 12) : Cal.ml y (m + 1) = tab.getD m 0 + (if m = 1 then Cal.lp y else 0) := by
  rw [Cal.ml_cases y _ (by omega) (by omega)]
  rcases (by omega : m = 0 ∨ m = 1 ∨ m = 2 ∨ m = 3 ∨ m = 4 ∨ m = 5 ∨ m = 6 ∨ m = 7 ∨ m = 8 ∨ m = 9 ∨ m = 10 ∨ m = 11) with rfl | rfl | rfl | rfl | rfl | rfl | rfl | rfl | rfl | rfl | rfl | rfl <;> simp [tab]

set_option maxHeartbeats 400000 in
theorem monthLength_any (y m : Int) (w : World) (h0 : 0 ≤ y) (h1 : 1 ≤ m) (h2 : m ≤ 12) (ht : Tab w) :
    Calls Tryd.prog 47 #[.int .i64 y, .int .i64 m] w fun e w' => e = .returned (.int .i64 (Cal.ml y m)) ∧ w = w' := by
  obtain ⟨k, rfl⟩ : ∃ k : Nat, m = k + 1 := ⟨(m - 1).toNat, by omega⟩
  have hc := ht k (by omega)
  have HM := Lib.hid (tab_ml y k (by omega))
  have e1 : (k : Int) + 1 - 1 = k := by omega
  have HT := Lib.hid ht
  clear ht
  by_cases hm : k = 1
  · subst hm
    cases hl : Cal.leapB y
    all_goals
      have HL := Lib.hid hl
      clear hl
      go_enter Tryd.func47, Tryd.ntmps47
      go_wp2_with (go_at_call 69; refine (isLeap_any _ _ (by omega)).mono ?_; rintro e w' ⟨rfl, rfl⟩; rw [HL.out])
      go_ret
      refine ⟨ret_intC ?_, rfl⟩
      rw [HM.out]
      first | rw [Cal.lp_true HL.out] | rw [Cal.lp_false HL.out]
      rfl
  · have q1 : ((k : Int) + 1 == 2) = false := by simp; omega
    go_enter Tryd.func47, Tryd.ntmps47
    go_wp2
    go_ret
    refine ⟨ret_intC ?_, rfl⟩
    rw [HM.out, if_neg hm]; simp

end Go.Proofs.YtfpiannnggkdiaaDoor
