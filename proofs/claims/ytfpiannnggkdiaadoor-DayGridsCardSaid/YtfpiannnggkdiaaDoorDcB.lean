/- DayCounts: the reference's dateOf, DayFrom and MonthsFrom. -/
import Derived.Test.YtfpiannnggkdiaaDoorDcA
import Derived.WalkKit
import Derived.Lib.Hide
import Derived.Below
import Derived.Deep.DeepCutAuto
import Derived.Deep.CutBlock
namespace Go.Proofs.YtfpiannnggkdiaaDoor
open Go.RowKit

/-- The days of the first months. -/
def tsum (k : Nat) : Int := (tab.take k).sum
theorem tsum_succ (j : Nat) (h : j < 12) : tsum (j + 1) = tsum j + tab.getD j 0 := by
  rcases (by omega : j = 0 ∨ j = 1 ∨ j = 2 ∨ j = 3 ∨ j = 4 ∨ j = 5 ∨ j = 6 ∨ j = 7 ∨ j = 8 ∨ j = 9 ∨ j = 10 ∨ j = 11) with rfl | rfl | rfl | rfl | rfl | rfl | rfl | rfl | rfl | rfl | rfl | rfl <;> decide
theorem tsum_bd (j : Nat) (h : j ≤ 12) : 0 ≤ tsum j ∧ tsum j ≤ 365 := by
  rcases (by omega : j = 0 ∨ j = 1 ∨ j = 2 ∨ j = 3 ∨ j = 4 ∨ j = 5 ∨ j = 6 ∨ j = 7 ∨ j = 8 ∨ j = 9 ∨ j = 10 ∨ j = 11 ∨ j = 12) with rfl | rfl | rfl | rfl | rfl | rfl | rfl | rfl | rfl | rfl | rfl | rfl | rfl <;> decide
theorem tab_bd (j : Nat) : 0 ≤ tab.getD j 0 ∧ tab.getD j 0 ≤ 31 := by
  by_cases h : j < 12
  · rcases (by omega : j = 0 ∨ j = 1 ∨ j = 2 ∨ j = 3 ∨ j = 4 ∨ j = 5 ∨ j = 6 ∨ j = 7 ∨ j = 8 ∨ j = 9 ∨ j = 10 ∨ j = 11) with rfl | rfl | rfl | rfl | rfl | rfl | rfl | rfl | rfl | rfl | rfl | rfl <;> decide
  · rw [List.getD_eq_getElem?_getD, List.getElem?_eq_none (by simp [tab]; omega)]; simp
theorem cum_tsum (y : Int) (k : Nat) (h : k < 12) : Cal.cum y (k + 1) = tsum k + if 2 ≤ k then Cal.lp y else 0 := by
  unfold Cal.cum
  rcases (by omega : k = 0 ∨ k = 1 ∨ k = 2 ∨ k = 3 ∨ k = 4 ∨ k = 5 ∨ k = 6 ∨ k = 7 ∨ k = 8 ∨ k = 9 ∨ k = 10 ∨ k = 11) with rfl | rfl | rfl | rfl | rfl | rfl | rfl | rfl | rfl | rfl | rfl | rfl <;> simp [tsum, tab] <;> omega
def monthCells : Array Value := #[.int .i64 31, .int .i64 28, .int .i64 31, .int .i64 30, .int .i64 31, .int .i64 30, .int .i64 31, .int .i64 31, .int .i64 30, .int .i64 31, .int .i64 30, .int .i64 31]
theorem month_cell (w : World) (j : Nat) (h : j < 12) : (w.alloc (.cells monthCells 3)).cell? ⟨w.heap.size, j, none⟩ = some (.int .i64 (tab.getD j 0)) := by
  rw [World.cell?_alloc_at _ _ _ _ rfl]
  rcases (by omega : j = 0 ∨ j = 1 ∨ j = 2 ∨ j = 3 ∨ j = 4 ∨ j = 5 ∨ j = 6 ∨ j = 7 ∨ j = 8 ∨ j = 9 ∨ j = 10 ∨ j = 11) with rfl | rfl | rfl | rfl | rfl | rfl | rfl | rfl | rfl | rfl | rfl | rfl <;> rfl
theorem ys_wide (y : Int) (h0 : 1 ≤ y) (h1 : y ≤ 20000) : -1000000 ≤ Cal.ys y ∧ Cal.ys y ≤ 10000000 := by unfold Cal.ys Cal.lys; omega

set_option maxHeartbeats 1000000 in
theorem refDateOf_any (y m n : Int) (w : World) (h0 : 1 ≤ y) (h1 : y ≤ 10000) (m0 : -10000 ≤ m) (m1 : m ≤ 10000) (n0 : -100 ≤ n) (n1 : n ≤ 100) (hy : 1 ≤ y + (m - 1) / 12) :
    Calls Tryd.prog 49 #[.int .i64 y, .int .i64 m, .int .i64 n] w fun e w' => e = .returned (.int .i64 (Cal.refDay y m n)) ∧ Below w.heap.size w w' := by
  go_enter Tryd.func49, Tryd.ntmps49
  go_wp2_with fail
  refine (floor_any _ _ _ (by omega) (by omega) (by omega) (by omega)).mono ?_
  rintro e w' ⟨rfl, rfl⟩
  obtain ⟨Q, hQ⟩ : ∃ Q, Q = (m - 1) / 12 := ⟨_, rfl⟩
  have q1 : -900 ≤ Q := by omega
  have q2 : Q ≤ 900 := by omega
  have q3 : 1 ≤ y + Q := by omega
  have q4 : y + Q ≤ 20000 := by omega
  obtain ⟨k, hk⟩ : ∃ k : Nat, m - 12 * Q = k + 1 := ⟨(m - 12 * Q - 1).toNat, by omega⟩
  have hk1 : k ≤ 11 := by omega
  have HQ := Lib.hid hQ
  have HK := Lib.hid hk
  rw [← hQ] at hy ⊢
  clear hQ hk
  go_wp2_with fail
  refine (floor_any _ _ _ (by omega) (by omega) (by omega) (by omega)).mono ?_
  rintro e w' ⟨rfl, rfl⟩
  rw [← HQ.out]
  go_upto_region 2 with (fail)
  rw [HK.out]
  generalize hY : y + Q = Y at *
  have HY := Lib.hid hY
  clear hY
  go_upto_region 4 with (fail)
  obtain ⟨W1, hW1⟩ : ∃ W1, W1 = w.alloc (.cells monthCells 3) := ⟨_, rfl⟩
  have hb : Below w.heap.size w W1 := by rw [hW1]; exact (Below.refl _ _).alloc (Nat.le_refl _) _
  have hc : ∀ j : Nat, j < 12 → W1.cell? ⟨w.heap.size, j, none⟩ = some (.int .i64 (tab.getD j 0)) := by rw [hW1]; exact month_cell w
  have HC := Lib.hid hc
  unfold monthCells at hW1
  rw [← hW1]
  clear hW1 hc
  have HT := Lib.hid (cum_tsum Y k (by omega))
  have tb : ∀ j : Nat, j ≤ 12 → 0 ≤ tsum j ∧ tsum j ≤ 365 := tsum_bd
  have yb := ys_wide Y (by omega) (by omega)
  have TB := Lib.hid tb
  clear tb
  have hfin : Hid (Cal.refDay y m n = Cal.ys Y + (tsum k + if 2 ≤ k then Cal.lp Y else 0) + n - 1) := Lib.hid (by
    unfold Cal.refDay; rw [← HQ.out, HK.out, HY.out, HT.out])
  go_loop [7, 26] (fun a i => ∃ j : Nat, j ≤ k ∧ i = .int .i64 j ∧ a = .int .i64 (tsum j)) (fun _ i => k - (intOf i).toNat)
  case atStart => exact ⟨0, by omega, rfl, rfl⟩
  case round =>
    obtain ⟨j, hj, rfl, rfl⟩ := hrel
    obtain ⟨t1, t2⟩ := TB.out j (by omega)
    by_cases hlt : j < k
    · have hcx := HC.out j (by omega)
      have hs := Lib.hid (tsum_succ j (by omega))
      obtain ⟨v, hv⟩ : ∃ v, v = tab.getD j 0 := ⟨_, rfl⟩
      have vb := tab_bd j
      rw [← hv] at hcx vb
      have HV := Lib.hid hv
      clear hv
      go_wp2
      go_round
      case rel => exact ⟨j + 1, by omega, by go_num, by rw [hs.out, HV.out]⟩
      case measure => simp [intOf]; omega
    · obtain rfl : j = k := by omega
      have lb := Cal.lp_01 Y
      by_cases h2 : 2 ≤ j
      · cases hl : Cal.leapB Y
        all_goals
          have HL := Lib.hid hl
          clear hl
          go_wp2_with (first
            | (go_at_call 72; refine (refLeap_any _ _ (by omega)).mono ?_; rintro e w' ⟨rfl, rfl⟩; rw [HL.out])
            | (go_at_call 73; refine (yearDay_any _ _ (by omega) (by omega)).mono ?_; rintro e w' ⟨rfl, rfl⟩))
          go_ret
          refine ⟨ret_intC ?_, hb⟩
          rw [hfin.out, if_pos h2]
          first | rw [Cal.lp_true HL.out] | rw [Cal.lp_false HL.out]
          try (first | rfl | omega)
      · go_wp2_with (first
          | (go_at_call 73; refine (yearDay_any _ _ (by omega) (by omega)).mono ?_; rintro e w' ⟨rfl, rfl⟩))
        go_ret
        refine ⟨ret_intC ?_, hb⟩
        rw [hfin.out, if_neg h2]
        omega

theorem Tab.below {w w' : World} (h : Tab w) (hb : Below w.heap.size w w') : Tab w' := fun i hi => by
  have hc := h i hi
  have hlt : 1 < w.heap.size := by
    by_cases hl : 1 < w.heap.size
    · exact hl
    · exfalso
      simp only [World.cell?] at hc
      rw [Array.getElem?_eq_none (by omega)] at hc
      cases hc
  exact (hb.cell (p := ⟨1, i, none⟩) hlt).trans hc

set_option maxHeartbeats 400000 in
theorem refIsDayC_any (d : Int) (w : World) :
    Calls Tryd.prog 20 #[.int .i64 d] w fun e w' => e = .returned (.bool (decide (0 ≤ d ∧ d ≤ 100000))) ∧ w = w' := by
  go_enter Tryd.func20, Tryd.ntmps20
  go_wp2
  all_goals go_ret
  all_goals refine ⟨ret_boolC ?_, rfl⟩
  all_goals (simp [*] <;> omega)
theorem refIsDay_yes (d : Int) (w : World) (h0 : 0 ≤ d) (h1 : d ≤ 100000) :
    Calls Tryd.prog 20 #[.int .i64 d] w fun e w' => e = .returned (.bool true) ∧ w = w' :=
  (refIsDayC_any d w).mono fun _ _ ⟨h, g⟩ => ⟨by rw [h]; simp [h0, h1], g⟩
theorem refIsDay_no (d : Int) (w : World) (h : d < 0 ∨ 100000 < d) :
    Calls Tryd.prog 20 #[.int .i64 d] w fun e w' => e = .returned (.bool false) ∧ w = w' :=
  (refIsDayC_any d w).mono fun _ _ ⟨h, g⟩ => ⟨by rw [h]; congr; simp; omega, g⟩

set_option maxHeartbeats 400000 in
theorem refDay_yes (d : Int) (w : World) (h0 : 0 ≤ d) (h1 : d ≤ 100000) :
    Calls Tryd.prog 50 #[.int .i64 d] w fun e w' => e = .returned (.tuple #[.int .i64 d, .bool true]) ∧ w = w' := by
  go_enter Tryd.func50, Tryd.ntmps50
  go_wp2_with (go_at_call 20; refine (refIsDay_yes _ _ h0 h1).mono ?_; rintro e w' ⟨rfl, rfl⟩)
  go_ret2
  exact ⟨rfl, rfl⟩
set_option maxHeartbeats 400000 in
theorem refDay_no (d : Int) (w : World) (h : d < 0 ∨ 100000 < d) :
    Calls Tryd.prog 50 #[.int .i64 d] w fun e w' => e = .returned (.tuple #[.int .i64 d, .bool false]) ∧ w = w' := by
  have H := Lib.hid h
  clear h
  go_enter Tryd.func50, Tryd.ntmps50
  go_wp2_with (go_at_call 20; refine (refIsDay_no _ _ H.out).mono ?_; rintro e w' ⟨rfl, rfl⟩)
  go_ret2
  exact ⟨rfl, rfl⟩

theorem ys_2275 : Cal.ys 2275 = 100076 := by decide
/-- What DayFrom says of a date. -/
theorem dayIs_far {y m n : Int} {e : Ending} (h : ¬ DateOk y m n) (he : e = .returned (.tuple #[.int .i64 0, .int .i64 2])) : DayIs y m n e := .inr ⟨fun g => h g.1, he⟩

end Go.Proofs.YtfpiannnggkdiaaDoor
