/- The calendar: DayOf, DateOf, Week. -/
import Derived.Test.YtfpiannnggkdiaaDoorCalC
import Derived.WalkKit
import Derived.Lib.Hide
namespace Go.Proofs.YtfpiannnggkdiaaDoor
open Go.RowKit

/-- There is such a date. -/
def DateOk (y m n : Int) : Prop := 2001 ≤ y ∧ y ≤ 2274 ∧ 1 ≤ m ∧ m ≤ 12 ∧ 1 ≤ n ∧ n ≤ Cal.ml y m
/-- The day of a date, and the code. -/
def DayIs (y m n : Int) (e : Ending) : Prop :=
  (DateOk y m n ∧ Cal.ys y + Cal.cum y m + n - 1 ≤ 100000 ∧ e = .returned (.tuple #[.int .i64 (Cal.ys y + Cal.cum y m + n - 1), .int .i64 0])) ∨
  (¬ (DateOk y m n ∧ Cal.ys y + Cal.cum y m + n - 1 ≤ 100000) ∧ e = .returned (.tuple #[.int .i64 0, .int .i64 2]))

set_option maxHeartbeats 1000000 in
theorem dayOf_date (y m n : Int) (w : World) (h : DateOk y m n) (ht : Tab w) :
    Calls Tryd.prog 14 #[.int .i64 y, .int .i64 m, .int .i64 n] w fun e w' => DayIs y m n e ∧ w = w' := by
  have HO := Lib.hid h
  obtain ⟨y1, y2, m1, m2, n1, n2⟩ := h
  have HT := Lib.hid ht
  clear ht
  have mb := Cal.ml_bd y m m1 m2
  have yb := Cal.ys_bd y y1 (by omega)
  by_cases hd : Cal.ys y + Cal.cum y m + n - 1 ≤ 100000
  all_goals
    have HD := Lib.hid hd
    clear hd
    go_enter Tryd.func14, Tryd.ntmps14
    go_wp2_with (first
      | (go_at_call 48; refine (yearStart_any _ _ (by omega) (by omega)).mono ?_; rintro e w' ⟨rfl, rfl⟩)
      | (go_at_call 47; refine (monthLength_any _ _ _ (by omega) (by omega) (by omega) HT.out).mono ?_; rintro e w' ⟨rfl, rfl⟩))
    go_loop [8, 9] (fun a k => ∃ b : Int, 1 ≤ b ∧ b ≤ m ∧ k = .int .i64 b ∧ a = .int .i64 (Cal.ys y + n - 1 + Cal.cum y b)) (fun _ k => (m - intOf k).toNat)
    case atStart => exact ⟨1, by omega, by omega, rfl, by rw [Cal.cum_one]; simp⟩
    case round =>
      obtain ⟨b, b1, b2, rfl, rfl⟩ := hrel
      have cb := Cal.cum_bd y b b1 (by omega)
      have lb := Cal.ml_bd y b b1 (by omega)
      have cs := Lib.hid (Cal.cum_succ y b)
      by_cases hlt : b < m
      · go_wp2_with (go_at_call 47; refine (monthLength_any _ _ _ (by omega) (by omega) (by omega) HT.out).mono ?_; rintro e w' ⟨rfl, rfl⟩)
        go_round
        case rel => exact ⟨b + 1, by omega, by omega, rfl, by rw [cs.out]; go_num⟩
        case measure => simp [intOf]; omega
      · obtain rfl : b = m := by omega
        have e1 : Cal.ys y + n - 1 + Cal.cum y b = Cal.ys y + Cal.cum y b + n - 1 := by omega
        rw [e1]
        first
          | (have hd' : ¬ 100000 < Cal.ys y + Cal.cum y b + n - 1 := by have := HD.out; omega
             clear e1
             go_wp2
             go_ret2
             exact ⟨.inl ⟨HO.out, HD.out, rfl⟩, rfl⟩)
          | (have hd' : 100000 < Cal.ys y + Cal.cum y b + n - 1 := by have := HD.out; omega
             clear e1
             go_wp2
             go_ret2
             exact ⟨.inr ⟨fun h => by have := HD.out; have := h.2; omega, rfl⟩, rfl⟩)

set_option maxHeartbeats 1000000 in
theorem dayOf_none (y m n : Int) (w : World) (h : ¬ DateOk y m n) (ht : Tab w) :
    Calls Tryd.prog 14 #[.int .i64 y, .int .i64 m, .int .i64 n] w fun e w' => DayIs y m n e ∧ w = w' := by
  have HT := Lib.hid ht
  clear ht
  have HO := Lib.hid h
  clear h
  have hend : DayIs y m n (.returned (.tuple #[.int .i64 0, .int .i64 2])) := .inr ⟨fun g => HO.out g.1, rfl⟩
  have HE := Lib.hid hend
  clear hend
  by_cases hy : 2001 ≤ y ∧ y ≤ 2274 ∧ 1 ≤ m ∧ m ≤ 12
  · obtain ⟨y1, y2, m1, m2⟩ := hy
    have hn : n < 1 ∨ Cal.ml y m < n := by
      by_cases h1 : n < 1
      · exact .inl h1
      · by_cases h2 : Cal.ml y m < n
        · exact .inr h2
        · exact absurd ⟨y1, y2, m1, m2, by omega, by omega⟩ HO.out
    have mb := Cal.ml_bd y m m1 m2
    rcases (by omega : n < 1 ∨ (1 ≤ n ∧ Cal.ml y m < n)) with h | ⟨h0, h⟩
    all_goals
      clear hn
      go_enter Tryd.func14, Tryd.ntmps14
      go_wp2_with (go_at_call 47; refine (monthLength_any _ _ _ (by omega) (by omega) (by omega) HT.out).mono ?_; rintro e w' ⟨rfl, rfl⟩)
      go_ret2
      exact ⟨HE.out, rfl⟩
  · rcases (by omega : y < 2001 ∨ (2001 ≤ y ∧ 2274 < y) ∨ (2001 ≤ y ∧ y ≤ 2274 ∧ m < 1) ∨ (2001 ≤ y ∧ y ≤ 2274 ∧ 1 ≤ m ∧ 12 < m)) with h | ⟨h0, h⟩ | ⟨h0, h1, h⟩ | ⟨h0, h1, h2, h⟩
    all_goals
      clear hy
      go_enter Tryd.func14, Tryd.ntmps14
      go_wp2
      go_ret2
      exact ⟨HE.out, rfl⟩

theorem dayOf_any (y m n : Int) (w : World) (ht : Tab w) :
    Calls Tryd.prog 14 #[.int .i64 y, .int .i64 m, .int .i64 n] w fun e w' => DayIs y m n e ∧ w = w' := by
  by_cases h : DateOk y m n
  · exact dayOf_date y m n w h ht
  · exact dayOf_none y m n w h ht

/-- DayOf of a date that a day has. -/
theorem dayOf_back (d y m n : Int) (w : World) (ht : Tab w) (h : Cal.DateIs d y m n) (h1 : d ≤ 100000) :
    Calls Tryd.prog 14 #[.int .i64 y, .int .i64 m, .int .i64 n] w fun e w' => e = .returned (.tuple #[.int .i64 d, .int .i64 0]) ∧ w = w' := by
  refine (dayOf_any y m n w ht).mono fun e w' ⟨he, hw⟩ => ⟨?_, hw⟩
  obtain ⟨⟨y1, y2, y3⟩, m1, m2, n1, n2, hd⟩ := h
  have hy : y ≤ 2274 := by
    by_cases h : y ≤ 2274
    · exact h
    · have a := Cal.ys_mono 2275 y (by omega)
      have e : Cal.ys 2275 = 100076 := by decide
      omega
  rcases he with ⟨_, _, rfl⟩ | ⟨hn, _⟩
  · rw [← hd]
  · exact absurd ⟨⟨y1, hy, m1, m2, n1, n2⟩, by omega⟩ hn

end Go.Proofs.YtfpiannnggkdiaaDoor
