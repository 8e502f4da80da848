/- Cards: CheckState of the program. -/
import Derived.Test.YtnellkdiafglgaaDoorCdA
import Derived.WalkKit
import Derived.Lib.Hide
import Derived.Below
import Derived.KernelRfl
namespace Go.Proofs.YtnellkdiafglgaaDoor
open Go.RowKit

def pFrom (n a b : Int) : Bool := decide (a ≤ n ∧ n ≤ b)
theorem pFrom_true {n a b : Int} (h : a ≤ n ∧ n ≤ b) : pFrom n a b = true := decide_eq_true h
theorem pFrom_false {n a b : Int} (h : ¬ (a ≤ n ∧ n ≤ b)) : pFrom n a b = false := decide_eq_false h
set_option maxHeartbeats 400000 in
theorem isFrom_p (n a b : Int) (w : World) : Calls Tryd.prog 62 #[.int .i64 n, .int .i64 a, .int .i64 b] w fun e w' => e = .returned (.bool (pFrom n a b)) ∧ w = w' := by
  have H0 : n < a ∨ (a ≤ n ∧ n ≤ b) ∨ (a ≤ n ∧ b < n) := by omega
  rcases H0 with h | ⟨h, h'⟩ | ⟨h, h'⟩
  all_goals
    go_enter Tryd.func62, Tryd.ntmps62
    go_wp2
    go_ret
    exact ⟨ret_boolR (by simp [pFrom]; try omega), rfl⟩
set_option maxHeartbeats 400000 in
theorem isDay_p (n : Int) (w : World) : Calls Tryd.prog 47 #[.int .i64 n] w fun e w' => e = .returned (.bool (pFrom n 0 100000)) ∧ w = w' := by
  go_enter Tryd.func47, Tryd.ntmps47
  go_wp2_with fail
  refine (isFrom_p _ _ _ _).mono ?_
  rintro e1 w1 ⟨rfl, rfl⟩
  go_wp2_with fail
  go_ret
  exact ⟨rfl, rfl⟩
set_option maxHeartbeats 400000 in
theorem stId_any (x : StV) (w : World) : Calls Tryd.prog 52 #[x.v] w fun e w' => e = .returned (.agg #[.int .i64 x.bl, .int .i64 x.no]) ∧ Below w.heap.size w w' := by
  obtain ⟨b, n, s, ea, du, la, ti, lp, bu⟩ := x
  unfold StV.v StV.cells
  dsimp only
  go_enter Tryd.func52, Tryd.ntmps52
  go_wp2_with fail
  exact bodyPost_ret (v := .agg #[.int .i64 b, .int .i64 n]) (by simp [results, Tryd.results52, go_sem]) rfl ⟨rfl, ((Below.refl _ _).alloc (Nat.le_refl _) _).alloc (by simp) _⟩
def idRight (b n : Int) : Bool := pFrom b 1 1000000 && pFrom n 1 20
set_option maxHeartbeats 400000 in
theorem isRight_any (b n : Int) (w : World) : Calls Tryd.prog 61 #[.agg #[.int .i64 b, .int .i64 n]] w fun e w' => e = .returned (.bool (idRight b n)) ∧ Below w.heap.size w w' := by
  have HB := Lib.hid (fun W => isFrom_p b 1 1000000 W)
  have HN := Lib.hid (fun W => isFrom_p n 1 20 W)
  obtain ⟨R, hR⟩ : ∃ R, R = idRight b n := ⟨_, rfl⟩
  have HR : Hid (R = (pFrom b 1 1000000 && pFrom n 1 20)) := Lib.hid hR
  rw [← hR]
  clear hR
  generalize pFrom b 1 1000000 = q1 at *
  generalize pFrom n 1 20 = q2 at *
  rcases q1 with _ | _
  all_goals
    go_enter Tryd.func61, Tryd.ntmps61
    go_wp2_with (first
      | (with_reducible refine (HB.out _).mono ?_; rintro e1 w1 ⟨rfl, rfl⟩)
      | (with_reducible refine (HN.out _).mono ?_; rintro e1 w1 ⟨rfl, rfl⟩))
    go_ret
    exact ⟨ret_boolR (by rw [HR.out]; simp), (Below.refl _ _).alloc (Nat.le_refl _) _⟩
set_option maxHeartbeats 400000 in
theorem fresh_any (b n : Int) (w : World) : Calls Tryd.prog 38 #[.agg #[.int .i64 b, .int .i64 n]] w fun e w' => e = .returned (StV.fresh b n).v ∧ Below w.heap.size w w' := by
  unfold StV.fresh StV.v StV.cells
  dsimp only
  go_enter Tryd.func38, Tryd.ntmps38
  go_wp2_with fail
  exact bodyPost_ret (v := .agg #[.int .i64 b, .int .i64 n, .int .i64 0, .int .i64 250, .int .i64 (-1), .int .i64 (-1), .int .i64 0, .int .i64 0, .int .i64 (-1)]) (by simp [results, Tryd.results38, go_sem]) rfl ⟨rfl, ((Below.refl _ _).alloc (Nat.le_refl _) _).alloc (by simp) _⟩
set_option maxHeartbeats 400000 in
theorem wasAsked_any (x : StV) (w : World) : Calls Tryd.prog 63 #[x.v] w fun e w' => e = .returned (.bool (decide (0 < x.ti))) ∧ Below w.heap.size w w' := by
  obtain ⟨b, n, s, ea, du, la, ti, lp, bu⟩ := x
  unfold StV.v StV.cells
  dsimp only
  go_enter Tryd.func63, Tryd.ntmps63
  go_wp2_with fail
  go_ret
  exact ⟨ret_boolR (by simp), (Below.refl _ _).alloc (Nat.le_refl _) _⟩
/-- A day that a state may have. -/
def okD (n : Int) : Prop := -1 ≤ n ∧ n ≤ 100000
theorem okD_cases (n : Int) : (¬ okD n ∧ (n != -1) = true ∧ pFrom n 0 100000 = false) ∨ (okD n ∧ (n != -1) = false) ∨ (okD n ∧ (n != -1) = true ∧ pFrom n 0 100000 = true) := by
  unfold okD
  by_cases h : n = -1
  · exact .inr (.inl ⟨by omega, by rw [bne_eq_false_iff_eq]; exact h⟩)
  · have h2 : (n != -1) = true := bne_iff_ne.2 h
    by_cases h3 : 0 ≤ n ∧ n ≤ 100000
    · exact .inr (.inr ⟨by omega, h2, pFrom_true h3⟩)
    · exact .inl ⟨by omega, h2, pFrom_false h3⟩
end Go.Proofs.YtnellkdiafglgaaDoor
