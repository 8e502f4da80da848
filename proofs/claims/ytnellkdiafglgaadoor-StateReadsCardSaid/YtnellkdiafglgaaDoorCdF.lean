/- Cards: StateFault of the reference within the bounds. -/
import Derived.Test.YtnellkdiafglgaaDoorCdE
import Derived.Deep.Cut
namespace Go.Proofs.YtnellkdiafglgaaDoor
open Go.RowKit Go.Shelf

set_option maxRecDepth 100000 in
set_option maxHeartbeats 8000000 in
theorem stateFault_in (x : StV) (w : World) (h : inRng x) : Calls Tryd.prog 15 #[x.v] w fun e w' => e = .returned (.int .i64 (if ofForm x then 0 else 1)) ∧ Below w.heap.size w w' := by
  have hen1 := enters_of Tryd.func41 (by kernel_rfl) rfl
  have hen2 := enters_of Tryd.func42 (by kernel_rfl) rfl
  have HD := Lib.hid (fun n W => refDay_p n W)
  have HC := Lib.hid (fun n W => refCount_p n W)
  have HF := rng_first x
  obtain ⟨R, hR⟩ : ∃ R : Int, R = if ofForm x then 0 else 1 := ⟨_, rfl⟩
  rw [← hR]
  have HR : Hid (R = if x.ti = 0 then (if x.st = 0 ∧ x.du = -1 ∧ x.la = -1 ∧ x.lp = 0 then 0 else 1) else (if x.la ≠ -1 ∧ x.la ≤ x.du ∧ x.lp ≤ x.ti then 0 else 1)) := Lib.hid (by
    rw [hR]
    by_cases ht : x.ti = 0
    · rw [if_pos ht]; simp only [ofForm, ht, if_true]
    · rw [if_neg ht]; simp only [ofForm, ht, if_false])
  clear hR
  obtain ⟨b, n, s, ea, du, la, ti, lp, bu⟩ := x
  unfold StV.v StV.cells at *
  dsimp only at *
  rcases HF with ⟨-, g0, g1, g2, g3, g4, g5, g6, g7, g8, g9, g10, g11, g12⟩ | ⟨HF, -⟩
  case inr => exact absurd h HF
  have k8 := pFrom_yes g8
  have k9 := pFrom_yes g9
  have k11 := pFrom_yes g11
  have k12 := pFrom_yes g12
  have hti : 0 ≤ ti := k11.1
  have hdu : -1 ≤ du := k8.1
  have hla : -1 ≤ la := k9.1
  have hlp : 0 ≤ lp := k12.1
  clear h k8 k9 k11 k12
  go_enter Tryd.func15, Tryd.ntmps15
  go_upto_region 5 with (first
    | (with_reducible refine (HD.out _ _).mono ?_; rintro e1 w1 ⟨rfl, rfl⟩)
    | (with_reducible refine (HC.out _ _).mono ?_; rintro e1 w1 ⟨rfl, rfl⟩))
  have KB := (Below.refl w.heap.size w).alloc (Nat.le_refl _) (.cells #[.int .i64 b, .int .i64 n, .int .i64 s, .int .i64 ea, .int .i64 du, .int .i64 la, .int .i64 ti, .int .i64 lp, .int .i64 bu] 23)
  have KB := Lib.hid KB
  clear g8 g9 g10 g11 g12
  rcases (by omega : (du = -1 ∧ 0 ≤ la) ∨ (0 ≤ du ∧ la = -1) ∨ (du = -1 ∧ la = -1 ∧ 0 < ti) ∨ (0 ≤ du ∧ 0 ≤ la ∧ ti = 0) ∨ (du = -1 ∧ la = -1 ∧ ti = 0 ∧ 0 < s) ∨ (du = -1 ∧ la = -1 ∧ ti = 0 ∧ s = 0 ∧ 0 < lp) ∨ (du = -1 ∧ la = -1 ∧ ti = 0 ∧ s = 0 ∧ lp = 0) ∨ (0 ≤ du ∧ 0 ≤ la ∧ 0 < ti ∧ du < la) ∨ (0 ≤ du ∧ 0 ≤ la ∧ 0 < ti ∧ la ≤ du ∧ ti < lp) ∨ (0 ≤ du ∧ 0 ≤ la ∧ 0 < ti ∧ la ≤ du ∧ lp ≤ ti)) with
    ⟨rfl, a1⟩ | ⟨a1, rfl⟩ | ⟨rfl, rfl, a1⟩ | ⟨a1, a2, rfl⟩ | ⟨rfl, rfl, rfl, a1⟩ | ⟨rfl, rfl, rfl, rfl, a1⟩ | ⟨rfl, rfl, rfl, rfl, rfl⟩ | ⟨a1, a2, a3, a4⟩ | ⟨a1, a2, a3, a4, a5⟩ | ⟨a1, a2, a3, a4, a5⟩
  · have HX : Hid (R = 1) := Lib.hid (by rw [HR.out]; simp; try omega)
    have d2 : (la == -1) = false := beq_eq_false_iff_ne.2 (by omega)
    clear HR
    go_wp2_with fail
    go_ret
    exact ⟨by rw [HX.out] <;> rfl, KB.out⟩
  · have HX : Hid (R = 1) := Lib.hid (by rw [HR.out]; simp; try omega)
    have d1 : (du == -1) = false := beq_eq_false_iff_ne.2 (by omega)
    clear HR
    go_wp2_with fail
    go_ret
    exact ⟨by rw [HX.out] <;> rfl, KB.out⟩
  · have HX : Hid (R = 1) := Lib.hid (by rw [HR.out]; simp; try omega)
    have d3 : (ti == 0) = false := beq_eq_false_iff_ne.2 (by omega)
    clear HR
    go_wp2_with fail
    go_ret
    exact ⟨by rw [HX.out] <;> rfl, KB.out⟩
  · have HX : Hid (R = 1) := Lib.hid (by rw [HR.out]; simp; try omega)
    have d1 : (du == -1) = false := beq_eq_false_iff_ne.2 (by omega)
    have d2 : (la == -1) = false := beq_eq_false_iff_ne.2 (by omega)
    clear HR
    go_wp2_with fail
    go_ret
    exact ⟨by rw [HX.out] <;> rfl, KB.out⟩
  · have HX : Hid (R = 1) := Lib.hid (by rw [HR.out]; simp; try omega)
    clear HR
    go_wp2_with fail
    go_ret
    exact ⟨by rw [HX.out] <;> rfl, KB.out⟩
  · have HX : Hid (R = 1) := Lib.hid (by rw [HR.out]; simp; try omega)
    clear HR
    go_wp2_with fail
    go_ret
    exact ⟨by rw [HX.out] <;> rfl, KB.out⟩
  · have HX : Hid (R = 0) := Lib.hid (by rw [HR.out]; simp; try omega)
    clear HR
    go_wp2_with fail
    go_ret
    exact ⟨by rw [HX.out] <;> rfl, KB.out⟩
  · have HX : Hid (R = 1) := Lib.hid (by rw [HR.out]; simp; try omega)
    have d1 : (du == -1) = false := beq_eq_false_iff_ne.2 (by omega)
    have d2 : (la == -1) = false := beq_eq_false_iff_ne.2 (by omega)
    have d3 : (ti == 0) = false := beq_eq_false_iff_ne.2 (by omega)
    clear HR
    go_wp2_with fail
    go_ret
    exact ⟨by rw [HX.out] <;> rfl, KB.out⟩
  · have HX : Hid (R = 1) := Lib.hid (by rw [HR.out]; simp; try omega)
    have d1 : (du == -1) = false := beq_eq_false_iff_ne.2 (by omega)
    have d2 : (la == -1) = false := beq_eq_false_iff_ne.2 (by omega)
    have d3 : (ti == 0) = false := beq_eq_false_iff_ne.2 (by omega)
    clear HR
    go_wp2_with fail
    go_ret
    exact ⟨by rw [HX.out] <;> rfl, KB.out⟩
  · have HX : Hid (R = 0) := Lib.hid (by rw [HR.out]; simp; try omega)
    have d1 : (du == -1) = false := beq_eq_false_iff_ne.2 (by omega)
    have d2 : (la == -1) = false := beq_eq_false_iff_ne.2 (by omega)
    have d3 : (ti == 0) = false := beq_eq_false_iff_ne.2 (by omega)
    clear HR
    go_wp2_with fail
    go_ret
    exact ⟨by rw [HX.out] <;> rfl, KB.out⟩
set_option maxRecDepth 100000 in
theorem stateFault_any (x : StV) (w : World) : Calls Tryd.prog 15 #[x.v] w fun e w' => e = .returned (.int .i64 (stE x)) ∧ Below w.heap.size w w' := by
  by_cases h : inRng x
  · have e : stE x = if ofForm x then 0 else 1 := by unfold stE; rw [if_pos h]
    rw [e]
    exact stateFault_in x w h
  · rw [stE_2 h]
    exact stateFault_out x w h
end Go.Proofs.YtnellkdiafglgaaDoor
