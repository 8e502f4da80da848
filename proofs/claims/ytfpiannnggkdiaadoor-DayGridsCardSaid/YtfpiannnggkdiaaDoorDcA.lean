/- DayCounts: the reference's calendar, what only reckons. -/
import Derived.Test.YtfpiannnggkdiaaDoorCalD
import Derived.WalkKit
import Derived.Lib.Hide
import Derived.Deep.DeepCutAuto
import Derived.Deep.CutBlock
namespace Go.Proofs.YtfpiannnggkdiaaDoor
open Go.RowKit

theorem tdiv_down {a b : Int} (ha : a < 0) (hb : 0 < b) : a.tdiv b = -((-a) / b) := by
  rw [← Int.tdiv_eq_ediv_of_nonneg (by omega), Int.neg_tdiv, Int.neg_neg]
theorem tmod_down {a b : Int} (ha : a < 0) (hb : 0 < b) : a.tmod b = -((-a) % b) := by
  rw [← Int.tmod_eq_emod_of_nonneg (by omega), Int.neg_tmod, Int.neg_neg]
theorem floor_down {a b : Int} (hb : 0 < b) : a / b = if (-a) % b = 0 then -((-a) / b) else -((-a) / b) - 1 := by
  have h1 := Int.mul_ediv_add_emod (-a) b
  have h2 := Int.emod_nonneg (-a) (by omega : b ≠ 0)
  have h3 := Int.emod_lt_of_pos (-a) hb
  generalize (-a) / b = q at *
  generalize (-a) % b = r at *
  split
  · have e : a = b * (-q) := by rw [Int.mul_neg]; omega
    rw [e, Int.mul_ediv_cancel_left _ (by omega)]
  · have e : a = (b - r) + b * (-q - 1) := by rw [Int.mul_sub, Int.mul_neg]; omega
    rw [e, Int.add_mul_ediv_left _ _ (by omega), Int.ediv_eq_zero_of_lt (by omega) (by omega)]; omega

set_option maxHeartbeats 400000 in
theorem floor_up (a b : Int) (w : World) (hb : 0 < b) (hb2 : b ≤ 1000000) (ha : 0 ≤ a) (ha2 : a ≤ 1000000000) :
    Calls Tryd.prog 71 #[.int .i64 a, .int .i64 b] w fun e w' => e = .returned (.int .i64 (a / b)) ∧ w = w' := by
  have q0 : (b == 0) = false := by simp; omega
  have q1 : 0 ≤ a / b := Int.ediv_nonneg ha (by omega)
  have q2 : a / b ≤ a := Int.ediv_le_self _ ha
  have q3 : 0 ≤ a % b := Int.emod_nonneg _ (by omega)
  have q4 : a % b < b := Int.emod_lt_of_pos _ hb
  go_enter Tryd.func71, Tryd.ntmps71
  go_wp2
  go_ret
  exact ⟨ret_intC rfl, rfl⟩

set_option maxHeartbeats 400000 in
theorem floor_neg (a b : Int) (w : World) (hb : 0 < b) (hb2 : b ≤ 1000000) (ha : a < 0) (ha2 : -1000000000 ≤ a) :
    Calls Tryd.prog 71 #[.int .i64 a, .int .i64 b] w fun e w' => e = .returned (.int .i64 (a / b)) ∧ w = w' := by
  have q0 : (b == 0) = false := by simp; omega
  have q1 : 0 ≤ (-a) / b := Int.ediv_nonneg (by omega) (by omega)
  have q2 : (-a) / b ≤ -a := Int.ediv_le_self _ (by omega)
  have q3 : 0 ≤ (-a) % b := Int.emod_nonneg _ (by omega)
  have q4 : (-a) % b < b := Int.emod_lt_of_pos _ hb
  have t1 : -1000000000 ≤ a.tdiv b := by rw [tdiv_down ha hb]; omega
  have t2 : a.tdiv b ≤ 0 := by rw [tdiv_down ha hb]; omega
  have e1 := Lib.hid (tdiv_down ha hb)
  have e2 := Lib.hid (tmod_down ha hb)
  have e3 := Lib.hid (floor_down (a := a) hb)
  go_enter Tryd.func71, Tryd.ntmps71
  go_wp2
  · have h : a.tmod b < 0 := by assumption
    rw [e2.out] at h
    go_ret
    refine ⟨ret_intC ?_, rfl⟩
    rw [e3.out, if_neg (by omega), e1.out]
  · have h : 0 ≤ a.tmod b := by assumption
    rw [e2.out] at h
    go_ret
    refine ⟨ret_intC ?_, rfl⟩
    rw [e3.out, if_pos (by omega), e1.out]

theorem floor_any (a b : Int) (w : World) (hb : 0 < b) (hb2 : b ≤ 1000000) (h1 : -1000000000 ≤ a) (h2 : a ≤ 1000000000) :
    Calls Tryd.prog 71 #[.int .i64 a, .int .i64 b] w fun e w' => e = .returned (.int .i64 (a / b)) ∧ w = w' := by
  by_cases h : 0 ≤ a
  · exact floor_up a b w hb hb2 h h2
  · exact floor_neg a b w hb hb2 (by omega) h1

set_option maxHeartbeats 400000 in
theorem refLeap_any (y : Int) (w : World) (h0 : 0 ≤ y) :
    Calls Tryd.prog 72 #[.int .i64 y] w fun e w' => e = .returned (.bool (Cal.leapB y)) ∧ w = w' := by
  have H : Hid (Cal.leapB y = decide (y % 4 = 0 ∧ (y % 100 ≠ 0 ∨ y % 400 = 0))) := Lib.hid rfl
  go_enter Tryd.func72, Tryd.ntmps72
  go_wp2
  all_goals go_ret
  all_goals refine ⟨ret_boolC ?_, rfl⟩
  all_goals (rw [H.out]; simp [*])
  all_goals rfl

theorem yearDay_eq (y : Int) : 365 * (y - 2001) + (y - 2001) / 4 - (y - 2001) / 100 + (y - 2001) / 400 = Cal.ys y := by unfold Cal.ys Cal.lys; omega

set_option maxHeartbeats 400000 in
theorem yearDay_any (y : Int) (w : World) (h0 : -100000 ≤ y) (h1 : y ≤ 100000) :
    Calls Tryd.prog 73 #[.int .i64 y] w fun e w' => e = .returned (.int .i64 (Cal.ys y)) ∧ w = w' := by
  have H := Lib.hid (yearDay_eq y)
  go_enter Tryd.func73, Tryd.ntmps73
  go_wp2_with (go_at_call 71; refine (floor_any _ _ _ (by omega) (by omega) (by omega) (by omega)).mono ?_; rintro e w' ⟨rfl, rfl⟩)
  go_ret
  refine ⟨ret_intC ?_, rfl⟩
  exact H.out

/-- The parts of a date, as the reference reckons them. -/
def pRow (d : Int) : Int := (d + 730791) / 146097
def pE (d : Int) : Int := d + 730791 - 146097 * pRow d
def pY (d : Int) : Int := (pE d - pE d / 1460 + pE d / 36524 - pE d / 146096) / 365
def pK (d : Int) : Int := pE d - (365 * pY d + pY d / 4 - pY d / 100)
def pM (d : Int) : Int := (5 * pK d + 2) / 153
def pN (d : Int) : Int := pK d - (153 * pM d + 2) / 5 + 1
theorem p_date (d : Int) (h0 : 0 ≤ d) : 0 ≤ pK d ∧ pK d ≤ 365 ∧ 0 ≤ pY d ∧ pY d < 400 ∧ (pM d ≤ 9 → Cal.DateIs d (400 * pRow d + pY d) (pM d + 3) (pN d)) ∧ (10 ≤ pM d → Cal.DateIs d (400 * pRow d + pY d + 1) (pM d - 9) (pN d)) :=
  Cal.parts_date d (pRow d) (pY d) (pK d) (pM d) (pN d) h0 rfl rfl rfl rfl rfl
theorem p_bd (d : Int) (h0 : 0 ≤ d) (h1 : d ≤ 100000000) : 5 ≤ pRow d ∧ pRow d ≤ 1000 ∧ 0 ≤ pE d ∧ pE d < 146097 := by
  unfold pE pRow; omega
def IsDateOf (d : Int) (e : Ending) : Prop := ∃ y m n, Cal.DateIs d y m n ∧ e = .returned (.tuple #[.int .i64 y, .int .i64 m, .int .i64 n])

/-- What a date's year, number and week are. -/
def IsYearOf (d : Int) (e : Ending) : Prop := ∃ y, Cal.YearIs d y ∧ e = .returned (.int .i64 y)
def IsNumberOf (d : Int) (e : Ending) : Prop := ∃ y m n, Cal.DateIs d y m n ∧ e = .returned (.int .i64 n)
def IsWeekOf (d : Int) (e : Ending) : Prop := ∃ y, Cal.YearIs (Cal.thu d) y ∧ e = .returned (.tuple #[.int .i64 y, .int .i64 ((Cal.thu d - Cal.ys y) / 7 + 1)])

theorem week_bd0 {e a : Int} (h : Cal.YearIs e a) : 2001 ≤ a ∧ 0 ≤ e - Cal.ys a ∧ e - Cal.ys a ≤ 366 ∧ a ≤ 2001 + e / 365 := by
  obtain ⟨h1, h2, h3⟩ := h
  have s := Cal.ys_succ a
  have l := Cal.lp_01 a
  have lo := Cal.ys_lo a h1
  omega

end Go.Proofs.YtfpiannnggkdiaaDoor
