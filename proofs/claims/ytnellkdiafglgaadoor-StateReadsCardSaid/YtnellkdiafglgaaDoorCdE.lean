/- Cards: StateFault of the reference. -/
import Derived.Test.YtnellkdiafglgaaDoorCdD
import Derived.Shelf.Abstract
namespace Go.Proofs.YtnellkdiafglgaaDoor
open Go.RowKit Go.Shelf

set_option maxHeartbeats 400000 in
theorem refDay_p (n : Int) (w : World) : Calls Tryd.prog 41 #[.int .i64 n] w fun e w' => e = .returned (.bool (pFrom n (-1) 100000)) ∧ w = w' := by
  have H0 : n < -1 ∨ (-1 ≤ n ∧ n ≤ 100000) ∨ (-1 ≤ n ∧ 100000 < n) := by omega
  rcases H0 with h | ⟨h, h'⟩ | ⟨h, h'⟩
  all_goals
    go_enter Tryd.func41, Tryd.ntmps41
    go_wp2
    go_ret
    exact ⟨ret_boolR (by simp [pFrom]; try omega), rfl⟩
set_option maxHeartbeats 400000 in
theorem refCount_p (n : Int) (w : World) : Calls Tryd.prog 42 #[.int .i64 n] w fun e w' => e = .returned (.bool (pFrom n 0 20000)) ∧ w = w' := by
  have H0 : n < 0 ∨ (0 ≤ n ∧ n ≤ 20000) ∨ (0 ≤ n ∧ 20000 < n) := by omega
  rcases H0 with h | ⟨h, h'⟩ | ⟨h, h'⟩
  all_goals
    go_enter Tryd.func42, Tryd.ntmps42
    go_wp2
    go_ret
    exact ⟨ret_boolR (by simp [pFrom]; try omega), rfl⟩
theorem pFrom_no {n a b : Int} (h : pFrom n a b = false) : ¬ (a ≤ n ∧ n ≤ b) := of_decide_eq_false h
theorem pFrom_yes {n a b : Int} (h : pFrom n a b = true) : a ≤ n ∧ n ≤ b := of_decide_eq_true h
/-- The first number of a state that is beyond its bounds, if one is. -/
theorem rng_first (x : StV) : (inRng x ∧ 1 ≤ x.bl ∧ x.bl ≤ 1000000 ∧ 1 ≤ x.no ∧ x.no ≤ 20 ∧ 0 ≤ x.st ∧ x.st ≤ 3650 ∧ 130 ≤ x.ea ∧ x.ea ≤ 400 ∧ pFrom x.du (-1) 100000 = true ∧ pFrom x.la (-1) 100000 = true ∧ pFrom x.bu (-1) 100000 = true ∧ pFrom x.ti 0 20000 = true ∧ pFrom x.lp 0 20000 = true) ∨
    (¬ inRng x ∧ ((x.bl < 1) ∨
      (1 ≤ x.bl ∧ 1000000 < x.bl) ∨
      (1 ≤ x.bl ∧ x.bl ≤ 1000000 ∧ x.no < 1) ∨
      (1 ≤ x.bl ∧ x.bl ≤ 1000000 ∧ 1 ≤ x.no ∧ 20 < x.no) ∨
      (1 ≤ x.bl ∧ x.bl ≤ 1000000 ∧ 1 ≤ x.no ∧ x.no ≤ 20 ∧ x.st < 0) ∨
      (1 ≤ x.bl ∧ x.bl ≤ 1000000 ∧ 1 ≤ x.no ∧ x.no ≤ 20 ∧ 0 ≤ x.st ∧ 3650 < x.st) ∨
      (1 ≤ x.bl ∧ x.bl ≤ 1000000 ∧ 1 ≤ x.no ∧ x.no ≤ 20 ∧ 0 ≤ x.st ∧ x.st ≤ 3650 ∧ x.ea < 130) ∨
      (1 ≤ x.bl ∧ x.bl ≤ 1000000 ∧ 1 ≤ x.no ∧ x.no ≤ 20 ∧ 0 ≤ x.st ∧ x.st ≤ 3650 ∧ 130 ≤ x.ea ∧ 400 < x.ea) ∨
      (1 ≤ x.bl ∧ x.bl ≤ 1000000 ∧ 1 ≤ x.no ∧ x.no ≤ 20 ∧ 0 ≤ x.st ∧ x.st ≤ 3650 ∧ 130 ≤ x.ea ∧ x.ea ≤ 400 ∧ pFrom x.du (-1) 100000 = false) ∨
      (1 ≤ x.bl ∧ x.bl ≤ 1000000 ∧ 1 ≤ x.no ∧ x.no ≤ 20 ∧ 0 ≤ x.st ∧ x.st ≤ 3650 ∧ 130 ≤ x.ea ∧ x.ea ≤ 400 ∧ pFrom x.du (-1) 100000 = true ∧ pFrom x.la (-1) 100000 = false) ∨
      (1 ≤ x.bl ∧ x.bl ≤ 1000000 ∧ 1 ≤ x.no ∧ x.no ≤ 20 ∧ 0 ≤ x.st ∧ x.st ≤ 3650 ∧ 130 ≤ x.ea ∧ x.ea ≤ 400 ∧ pFrom x.du (-1) 100000 = true ∧ pFrom x.la (-1) 100000 = true ∧ pFrom x.bu (-1) 100000 = false) ∨
      (1 ≤ x.bl ∧ x.bl ≤ 1000000 ∧ 1 ≤ x.no ∧ x.no ≤ 20 ∧ 0 ≤ x.st ∧ x.st ≤ 3650 ∧ 130 ≤ x.ea ∧ x.ea ≤ 400 ∧ pFrom x.du (-1) 100000 = true ∧ pFrom x.la (-1) 100000 = true ∧ pFrom x.bu (-1) 100000 = true ∧ pFrom x.ti 0 20000 = false) ∨
      (1 ≤ x.bl ∧ x.bl ≤ 1000000 ∧ 1 ≤ x.no ∧ x.no ≤ 20 ∧ 0 ≤ x.st ∧ x.st ≤ 3650 ∧ 130 ≤ x.ea ∧ x.ea ≤ 400 ∧ pFrom x.du (-1) 100000 = true ∧ pFrom x.la (-1) 100000 = true ∧ pFrom x.bu (-1) 100000 = true ∧ pFrom x.ti 0 20000 = true ∧ pFrom x.lp 0 20000 = false))) := by
  by_cases h : inRng x
  · refine .inl ⟨h, ?_⟩
    unfold inRng at h
    refine ⟨h.1.1, h.1.2, h.2.1.1, h.2.1.2, h.2.2.1.1, h.2.2.1.2, h.2.2.2.1.1, h.2.2.2.1.2, pFrom_true h.2.2.2.2.1, pFrom_true h.2.2.2.2.2.1, pFrom_true h.2.2.2.2.2.2.2.2, pFrom_true h.2.2.2.2.2.2.1, pFrom_true h.2.2.2.2.2.2.2.1⟩
  · refine .inr ⟨h, ?_⟩
    unfold inRng at h
    by_cases g0 : 1 ≤ x.bl
    case neg =>
      have c : x.bl < 1 := by omega
      exact (.inl c)
    by_cases g1 : x.bl ≤ 1000000
    case neg =>
      have c : 1000000 < x.bl := by omega
      exact (.inr (.inl ⟨g0, c⟩))
    by_cases g2 : 1 ≤ x.no
    case neg =>
      have c : x.no < 1 := by omega
      exact (.inr (.inr (.inl ⟨g0, g1, c⟩)))
    by_cases g3 : x.no ≤ 20
    case neg =>
      have c : 20 < x.no := by omega
      exact (.inr (.inr (.inr (.inl ⟨g0, g1, g2, c⟩))))
    by_cases g4 : 0 ≤ x.st
    case neg =>
      have c : x.st < 0 := by omega
      exact (.inr (.inr (.inr (.inr (.inl ⟨g0, g1, g2, g3, c⟩)))))
    by_cases g5 : x.st ≤ 3650
    case neg =>
      have c : 3650 < x.st := by omega
      exact (.inr (.inr (.inr (.inr (.inr (.inl ⟨g0, g1, g2, g3, g4, c⟩))))))
    by_cases g6 : 130 ≤ x.ea
    case neg =>
      have c : x.ea < 130 := by omega
      exact (.inr (.inr (.inr (.inr (.inr (.inr (.inl ⟨g0, g1, g2, g3, g4, g5, c⟩)))))))
    by_cases g7 : x.ea ≤ 400
    case neg =>
      have c : 400 < x.ea := by omega
      exact (.inr (.inr (.inr (.inr (.inr (.inr (.inr (.inl ⟨g0, g1, g2, g3, g4, g5, g6, c⟩))))))))
    by_cases g8 : pFrom x.du (-1) 100000 = true
    case neg =>
      have c : pFrom x.du (-1) 100000 = false := by simpa using g8
      exact (.inr (.inr (.inr (.inr (.inr (.inr (.inr (.inr (.inl ⟨g0, g1, g2, g3, g4, g5, g6, g7, c⟩)))))))))
    by_cases g9 : pFrom x.la (-1) 100000 = true
    case neg =>
      have c : pFrom x.la (-1) 100000 = false := by simpa using g9
      exact (.inr (.inr (.inr (.inr (.inr (.inr (.inr (.inr (.inr (.inl ⟨g0, g1, g2, g3, g4, g5, g6, g7, g8, c⟩))))))))))
    by_cases g10 : pFrom x.bu (-1) 100000 = true
    case neg =>
      have c : pFrom x.bu (-1) 100000 = false := by simpa using g10
      exact (.inr (.inr (.inr (.inr (.inr (.inr (.inr (.inr (.inr (.inr (.inl ⟨g0, g1, g2, g3, g4, g5, g6, g7, g8, g9, c⟩)))))))))))
    by_cases g11 : pFrom x.ti 0 20000 = true
    case neg =>
      have c : pFrom x.ti 0 20000 = false := by simpa using g11
      exact (.inr (.inr (.inr (.inr (.inr (.inr (.inr (.inr (.inr (.inr (.inr (.inl ⟨g0, g1, g2, g3, g4, g5, g6, g7, g8, g9, g10, c⟩))))))))))))
    by_cases g12 : pFrom x.lp 0 20000 = true
    case neg =>
      have c : pFrom x.lp 0 20000 = false := by simpa using g12
      exact (.inr (.inr (.inr (.inr (.inr (.inr (.inr (.inr (.inr (.inr (.inr (.inr ⟨g0, g1, g2, g3, g4, g5, g6, g7, g8, g9, g10, g11, c⟩))))))))))))
    exact absurd ⟨⟨g0, g1⟩, ⟨g2, g3⟩, ⟨g4, g5⟩, ⟨g6, g7⟩, pFrom_yes g8, pFrom_yes g9, pFrom_yes g11, pFrom_yes g12, pFrom_yes g10⟩ h
set_option maxRecDepth 100000 in
set_option maxHeartbeats 8000000 in
theorem stateFault_out (x : StV) (w : World) (h : ¬ inRng x) : Calls Tryd.prog 15 #[x.v] w fun e w' => e = .returned (.int .i64 2) ∧ Below w.heap.size w w' := by
  have hen1 := enters_of Tryd.func41 (by kernel_rfl) rfl
  have hen2 := enters_of Tryd.func42 (by kernel_rfl) rfl
  have HD := Lib.hid (fun n W => refDay_p n W)
  have HC := Lib.hid (fun n W => refCount_p n W)
  have HF := rng_first x
  obtain ⟨b, n, s, ea, du, la, ti, lp, bu⟩ := x
  unfold StV.v StV.cells at *
  dsimp only at *
  rcases HF with ⟨hin, -⟩ | ⟨-, HF⟩
  · exact absurd hin h
  clear h
  rcases HF with ⟨g0⟩ | ⟨g0, g1⟩ | ⟨g0, g1, g2⟩ | ⟨g0, g1, g2, g3⟩ | ⟨g0, g1, g2, g3, g4⟩ | ⟨g0, g1, g2, g3, g4, g5⟩ | ⟨g0, g1, g2, g3, g4, g5, g6⟩ | ⟨g0, g1, g2, g3, g4, g5, g6, g7⟩ | ⟨g0, g1, g2, g3, g4, g5, g6, g7, g8⟩ | ⟨g0, g1, g2, g3, g4, g5, g6, g7, g8, g9⟩ | ⟨g0, g1, g2, g3, g4, g5, g6, g7, g8, g9, g10⟩ | ⟨g0, g1, g2, g3, g4, g5, g6, g7, g8, g9, g10, g11⟩ | ⟨g0, g1, g2, g3, g4, g5, g6, g7, g8, g9, g10, g11, g12⟩
  all_goals
    go_enter Tryd.func15, Tryd.ntmps15
    go_wp2_with (first
      | (with_reducible refine (HD.out _ _).mono ?_; rintro e1 w1 ⟨rfl, rfl⟩)
      | (with_reducible refine (HC.out _ _).mono ?_; rintro e1 w1 ⟨rfl, rfl⟩))
    go_ret
    exact ⟨rfl, (Below.refl _ _).alloc (Nat.le_refl _) _⟩
end Go.Proofs.YtnellkdiafglgaaDoor
