/- The calendar: the program's functions from a day to its date, and back. -/
import Derived.Test.YtkidjhdfpdecoaaDoorCalB
import Derived.WalkKit
import Derived.Lib.Hide
namespace Go.Proofs.YtkidjhdfpdecoaaDoor
open Go.RowKit

set_option maxHeartbeats 400000 in
theorem yearOf_any (d : Int) (w : World) (h0 : 0 ≤ d) (h1 : d ≤ 1000000) :
    Calls Tryd.prog 37 #[.int .i64 d] w fun e w' => ∃ y, Cal.YearIs d y ∧ e = .returned (.int .i64 y) ∧ w = w' := by
  have g0 := Lib.hid (Cal.ys_guess d h0)
  go_enter Tryd.func37, Tryd.ntmps37
  go_wp2_with fail
  go_loop [3] (fun t => ∃ y : Int, 2001 ≤ y ∧ y ≤ 2001 + d / 365 ∧ t = .int .i64 y ∧ Hid (Cal.ys y ≤ d)) (fun t => (2001 + d / 365 - intOf t).toNat)
  case atStart => exact ⟨_, by omega, by omega, rfl, g0⟩
  case round =>
    obtain ⟨y, hy1, hy2, rfl, hy3⟩ := hrel
    have lo := Cal.ys_lo (y + 1) (by omega)
    by_cases hc : Cal.ys (y + 1) ≤ d
    · go_wp2_with (go_at_call 29; refine (yearStart_any _ _ (by omega) (by omega)).mono ?_; rintro e w' ⟨rfl, rfl⟩)
      go_round
      case rel => exact ⟨y + 1, by omega, by omega, rfl, hc⟩
      case measure => simp [intOf]; omega
    · have hc' : d < Cal.ys (y + 1) := by omega
      clear hc
      go_wp2_with (go_at_call 29; refine (yearStart_any _ _ (by omega) (by omega)).mono ?_; rintro e w' ⟨rfl, rfl⟩)
      go_ret
      exact ⟨y, ⟨hy1, hy3.out, hc'⟩, rfl, rfl⟩

set_option maxHeartbeats 400000 in
theorem isDay_any (d : Int) (w : World) :
    Calls Tryd.prog 33 #[.int .i64 d] w fun e w' => e = .returned (.bool (decide (0 ≤ d ∧ d ≤ 100000))) ∧ w = w' := by
  go_enter Tryd.func33, Tryd.ntmps33
  go_wp2
  all_goals go_ret
  all_goals refine ⟨ret_bool ?_, rfl⟩
  all_goals (simp [*] <;> omega)

theorem isDay_yes (d : Int) (w : World) (h0 : 0 ≤ d) (h1 : d ≤ 100000) :
    Calls Tryd.prog 33 #[.int .i64 d] w fun e w' => e = .returned (.bool true) ∧ w = w' :=
  (isDay_any d w).mono fun _ _ ⟨h, g⟩ => ⟨by rw [h]; simp [h0, h1], g⟩
theorem isDay_no (d : Int) (w : World) (h : d < 0 ∨ 100000 < d) :
    Calls Tryd.prog 33 #[.int .i64 d] w fun e w' => e = .returned (.bool false) ∧ w = w' :=
  (isDay_any d w).mono fun _ _ ⟨h, g⟩ => ⟨by rw [h]; congr; simp; omega, g⟩

set_option maxHeartbeats 400000 in
theorem monday_any (d : Int) (w : World) (h0 : 0 ≤ d) (h1 : d ≤ 1000000) :
    Calls Tryd.prog 36 #[.int .i64 d] w fun e w' => e = .returned (.int .i64 (d - d % 7)) ∧ w = w' := by
  go_enter Tryd.func36, Tryd.ntmps36
  go_wp2
  go_ret
  exact ⟨rfl, rfl⟩

set_option maxHeartbeats 1000000 in
theorem dateOf_any (d : Int) (w : World) (h0 : 0 ≤ d) (h1 : d ≤ 1000000) (ht : Tab w) :
    Calls Tryd.prog 34 #[.int .i64 d] w fun e w' => ∃ y m n, Cal.DateIs d y m n ∧ e = .returned (.tuple #[.int .i64 y, .int .i64 m, .int .i64 n]) ∧ w = w' := by
  have HT := Lib.hid ht
  clear ht
  go_enter Tryd.func34, Tryd.ntmps34
  go_wp2_with fail
  refine (yearOf_any _ _ h0 h1).mono ?_
  rintro e w' ⟨y, hy, rfl, rfl⟩
  have hy1 := hy.1
  have hy2 := hy.2.1
  have hy3 := hy.2.2
  have lo := Cal.ys_lo y hy1
  have hsu := Lib.hid (Cal.ys_succ y)
  have HY := Lib.hid hy
  clear hy
  have hyb : y ≤ 12000 := by omega
  go_wp2_with (go_at_call 29; refine (yearStart_any _ _ (by omega) (by omega)).mono ?_; rintro e w' ⟨rfl, rfl⟩)
  go_loop [0, 3] (fun a k => ∃ m : Int, 1 ≤ m ∧ m ≤ 12 ∧ k = .int .i64 m ∧ 0 ≤ d - Cal.ys y - Cal.cum y m ∧ a = .int .i64 (d - Cal.ys y - Cal.cum y m)) (fun _ k => (12 - intOf k).toNat)
  case atStart => exact ⟨1, by omega, by omega, rfl, by rw [Cal.cum_one]; omega, by rw [Cal.cum_one]; simp⟩
  case round =>
    obtain ⟨m, hm1, hm2, rfl, hr, rfl⟩ := hrel
    have cb := Cal.cum_bd y m hm1 (by omega)
    have db := Cal.ml_bd y m hm1 hm2
    have cs := Lib.hid (Cal.cum_succ y m)
    by_cases hc : Cal.ml y m ≤ d - Cal.ys y - Cal.cum y m
    · have hm : m < 12 := by
        by_cases hm : m < 12
        · exact hm
        · exfalso
          have c := cs.out
          obtain rfl : m = 12 := by omega
          rw [show (12 : Int) + 1 = 13 by rfl, Cal.cum_13] at c
          have s := hsu.out
          omega
      go_wp2_with (go_at_call 28; refine (monthLength_any _ _ _ (by omega) hm1 hm2 HT.out).mono ?_; rintro e w' ⟨rfl, rfl⟩)
      go_round
      case rel => exact ⟨m + 1, by omega, by omega, rfl, by rw [cs.out]; omega, by rw [cs.out]; go_num⟩
      case measure => simp [intOf]; omega
    · have hc' : d - Cal.ys y - Cal.cum y m < Cal.ml y m := by omega
      clear hc
      go_wp2_with (go_at_call 28; refine (monthLength_any _ _ _ (by omega) hm1 hm2 HT.out).mono ?_; rintro e w' ⟨rfl, rfl⟩)
      go_ret3
      exact ⟨y, m, _, ⟨HY.out, hm1, hm2, by omega, by omega, by omega⟩, rfl, rfl⟩

end Go.Proofs.YtkidjhdfpdecoaaDoor
