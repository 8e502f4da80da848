/- TextEdits, part 2: the error of an edit. -/
import Derived.Test.YtjfpaahidfhkoaaDoorKEdA
import Derived.WalkKit
import Derived.Lib.Hide
namespace Go.Proofs.YtjfpaahidfhkoaaDoor.Ke
open Go.RowKit

/-- The error of an edit of a string of n bytes. -/
def editErr (n : Nat) (f t : Int) (x : ByteArray) : Int :=
  if f < 0 ∨ t < f ∨ n < t then 2 else if ctl x = true then 9 else if 2000 < n - (t - f) + x.size then 4 else 0
theorem editErr_range {n : Nat} {f t : Int} {x : ByteArray} (h : f < 0 ∨ t < f ∨ n < t) : editErr n f t x = 2 := by unfold editErr; rw [if_pos h]
theorem editErr_byte {n : Nat} {f t : Int} {x : ByteArray} (h : ¬ (f < 0 ∨ t < f ∨ n < t)) (hc : ctl x = true) : editErr n f t x = 9 := by unfold editErr; rw [if_neg h, if_pos hc]
theorem editErr_large {n : Nat} {f t : Int} {x : ByteArray} (h : ¬ (f < 0 ∨ t < f ∨ n < t)) (hc : ctl x = false) (hl : 2000 < n - (t - f) + x.size) : editErr n f t x = 4 := by unfold editErr; rw [if_neg h, if_neg (by simp [hc]), if_pos hl]
theorem editErr_ok {n : Nat} {f t : Int} {x : ByteArray} (h : ¬ (f < 0 ∨ t < f ∨ n < t)) (hc : ctl x = false) (hl : ¬ 2000 < n - (t - f) + x.size) : editErr n f t x = 0 := by unfold editErr; rw [if_neg h, if_neg (by simp [hc]), if_neg hl]
theorem editErr_zero {n : Nat} {f t : Int} {x : ByteArray} (h : editErr n f t x = 0) : 0 ≤ f ∧ f ≤ t ∧ t ≤ n ∧ ctl x = false ∧ n - (t - f) + x.size ≤ 2000 := by
  unfold editErr at h
  split at h
  · omega
  · split at h
    · omega
    · split at h
      · omega
      · rename_i h1 h2 h3
        exact ⟨by omega, by omega, by omega, by simpa using h2, by omega⟩

set_option maxHeartbeats 2000000 in
theorem checkEdit_any (s : ByteArray) (f t : Int) (x : ByteArray) (w : World) (hs : s.size ≤ 140737488351232) (hx : x.size ≤ 140737488351232) :
    Calls Tryd.prog 37 #[.string s, .agg #[.int .i64 f, .int .i64 t, .string x]] w fun e w' =>
      e = .returned (.int .i64 (editErr s.size f t x)) ∧ w' = w.alloc (.cells #[.int .i64 f, .int .i64 t, .string x] 46) := by
  by_cases h1 : f < 0 ∨ t < f ∨ (s.size : Int) < t
  · have HE := Lib.hid (editErr_range (x := x) h1)
    go_enter Tryd.func37, Tryd.ntmps37
    go_wp2_with fail
    all_goals go_ret
    all_goals exact ⟨ret_int HE.out.symm, rfl⟩
  · obtain ⟨g1, g2, g3⟩ : 0 ≤ f ∧ f ≤ t ∧ t ≤ s.size := ⟨by omega, by omega, by omega⟩
    rcases hc : ctl x with _ | _
    · by_cases hl : 2000 < s.size - (t - f) + x.size
      · have HE := Lib.hid (editErr_large h1 hc hl)
        have HL := Lib.hid (isLong_yes (k := s.size - (t - f)) (m := x.size) (by omega))
        have HC := Lib.hid hc
        clear hc h1
        go_enter Tryd.func37, Tryd.ntmps37
        go_wp2_with (first | (go_at_call 38; refine (hasControl_any x _ (by omega)).mono ?_; rintro e w' ⟨rfl, rfl⟩; rw [HC.out]) | (go_at_call 42; refine (tooLong_any _ _ _ (by omega)).mono ?_; rintro e w' ⟨rfl, rfl⟩; rw [HL.out]))
        go_ret
        exact ⟨ret_int HE.out.symm, rfl⟩
      · have HE := Lib.hid (editErr_ok h1 hc hl)
        have HL := Lib.hid (isLong_no (k := s.size - (t - f)) (m := x.size) (by omega))
        have HC := Lib.hid hc
        have hl' : s.size - (t - f) + x.size ≤ 2000 := by omega
        clear hc h1 hl
        go_enter Tryd.func37, Tryd.ntmps37
        go_wp2_with (first | (go_at_call 38; refine (hasControl_any x _ (by omega)).mono ?_; rintro e w' ⟨rfl, rfl⟩; rw [HC.out]) | (go_at_call 42; refine (tooLong_any _ _ _ (by omega)).mono ?_; rintro e w' ⟨rfl, rfl⟩; rw [HL.out]))
        go_ret
        exact ⟨ret_int HE.out.symm, rfl⟩
    · have HE := Lib.hid (editErr_byte h1 hc)
      have HC := Lib.hid hc
      clear hc h1
      go_enter Tryd.func37, Tryd.ntmps37
      go_wp2_with (first | (go_at_call 38; refine (hasControl_any x _ (by omega)).mono ?_; rintro e w' ⟨rfl, rfl⟩; rw [HC.out]) | (go_at_call 42; refine (tooLong_any _ _ _ (by omega)).mono ?_; rintro e w' ⟨rfl, rfl⟩; rw [HL.out]))
      go_ret
      exact ⟨ret_int HE.out.symm, rfl⟩

end Go.Proofs.YtjfpaahidfhkoaaDoor.Ke
