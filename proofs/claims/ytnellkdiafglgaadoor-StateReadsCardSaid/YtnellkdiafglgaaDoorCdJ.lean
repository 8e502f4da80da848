/- Cards: steps and GradeOf of the reference. -/
import Derived.Test.YtnellkdiafglgaaDoorCdI
namespace Go.Proofs.YtnellkdiafglgaaDoor
open Go.RowKit Go.Shelf

set_option maxHeartbeats 400000 in
theorem refIsDay_p (n : Int) (w : World) : Calls Tryd.prog 49 #[.int .i64 n] w fun e w' => e = .returned (.bool (pFrom n 0 100000)) ∧ w = w' := by
  have H0 : n < 0 ∨ (0 ≤ n ∧ n ≤ 100000) ∨ (0 ≤ n ∧ 100000 < n) := by omega
  rcases H0 with h | ⟨h, h'⟩ | ⟨h, h'⟩
  all_goals
    go_enter Tryd.func49, Tryd.ntmps49
    go_wp2
    go_ret
    exact ⟨ret_boolR (by simp [pFrom]; try omega), rfl⟩
set_option maxRecDepth 100000 in
set_option maxHeartbeats 4000000 in
theorem steps_any (x : StV) (d : Int) (w : World) (h : inRng x) (h1 : x.la ≤ d) (h2 : d ≤ 100000) :
    Calls Tryd.prog 50 #[x.v, .int .i64 d] w fun e w' => e = .returned (.agg #[.int .i64 (hardOf x d), .int .i64 (goodOf x d), .int .i64 (easyOf x d)]) ∧ Below w.heap.size w w' := by
  obtain ⟨t1, t2, t3⟩ := tOf_bd (d := d) h
  have hH : hardOf x d = if x.st = 0 then 1 else max (x.st + 1) (12 * tOf x d / 10) := rfl
  have hG : goodOf x d = if x.st = 0 then 2 else max (hardOf x d + 1) (x.ea * tOf x d / 100) := rfl
  have hE : easyOf x d = if x.st = 0 then 4 else max (goodOf x d + 1) (13 * x.ea * tOf x d / 1000) := rfl
  obtain ⟨k1, k2, k3, k4, k5, k6⟩ := step_bd (d := d) h
  have hr := h
  unfold inRng at hr
  have m1 := mul_bd (a := x.ea) (b := tOf x d) (m := 400) (n := 3680) (by omega) (by omega) (by omega) (by omega)
  have m2 := mul_bd (a := 13 * x.ea) (b := tOf x d) (m := 5200) (n := 3680) (by omega) (by omega) (by omega) (by omega)
  obtain ⟨m1a, m1b⟩ := m1
  obtain ⟨m2a, m2b⟩ := m2
  have hs0 : 0 ≤ x.st := hr.2.2.1.1
  have hs1 : x.st ≤ 3650 := hr.2.2.1.2
  have he0 : 130 ≤ x.ea := hr.2.2.2.1.1
  have he1 : x.ea ≤ 400 := hr.2.2.2.1.2
  have hla : -1 ≤ x.la := hr.2.2.2.2.2.1.1
  generalize hardOf x d = hd at *
  generalize goodOf x d = gd at *
  generalize easyOf x d = es at *
  generalize tOf x d = t at *
  clear hr h
  obtain ⟨b, n, s, ea, du, la, ti, lp, bu⟩ := x
  unfold StV.v StV.cells at *
  dsimp only at *
  rcases (by omega : s = 0 ∨ 0 < s) with rfl | hs
  case inl =>
    rw [if_pos rfl] at hH hG hE
    subst hH hG hE
    clear t3
    go_enter Tryd.func50, Tryd.ntmps50
    go_wp2_with fail
    exact bodyPost_ret (v := .agg #[.int .i64 1, .int .i64 2, .int .i64 4]) (by simp [results, Tryd.results50, go_sem]) rfl ⟨rfl, ((Below.refl _ _).alloc (Nat.le_refl _) _).alloc (by simp) _⟩
  case inr =>
    rw [if_neg (by omega)] at hH hG hE
    have c1 := Lib.hid hH
    have c2 := Lib.hid hG
    have c3 := Lib.hid hE
    have b1 : 1 ≤ hd ∧ hd ≤ 4416 := ⟨k1, k2⟩
    have b2 : 1 ≤ gd ∧ gd ≤ 14720 := ⟨k3, k4⟩
    clear hH hG hE
    rcases (by omega : (s + 30 < d - la ∧ t = s + 30) ∨ (s ≤ d - la ∧ d - la ≤ s + 30 ∧ t = d - la) ∨ (d - la < s ∧ d - la ≤ s + 30 ∧ t = s)) with ⟨a1, a2⟩ | ⟨a1, a2, a3⟩ | ⟨a1, a2, a3⟩
    · have a3 : s + 30 = t := a2.symm
      have a4 : t < d - la := by omega
      have a5 : s ≤ t := by omega
      clear t3 a2
      go_enter Tryd.func50, Tryd.ntmps50
      go_upto_region 8 with fail
      go_cut [6] (fun v wx => v = .int .i64 hd ∧ wx = (w.alloc (.cells #[.int .i64 b, .int .i64 n, .int .i64 s, .int .i64 ea, .int .i64 du, .int .i64 la, .int .i64 ti, .int .i64 lp, .int .i64 bu] 23)).alloc (.cells #[.int .i64 0, .int .i64 0, .int .i64 0] 74))
      case first =>
        go_wp2_with fail
        all_goals
          go_meet
          exact ⟨congrArg (Value.int .i64) (by rw [c1.out]; omega), rfl⟩
      case rest =>
        obtain ⟨rfl, rfl⟩ := hcut
        go_upto_region 9 with fail
        go_cut [7] (fun v wx => v = .int .i64 gd ∧ wx = (w.alloc (.cells #[.int .i64 b, .int .i64 n, .int .i64 s, .int .i64 ea, .int .i64 du, .int .i64 la, .int .i64 ti, .int .i64 lp, .int .i64 bu] 23)).alloc (.cells #[.int .i64 0, .int .i64 0, .int .i64 0] 74))
        case first =>
          go_wp2_with fail
          all_goals
            go_meet
            exact ⟨congrArg (Value.int .i64) (by rw [c2.out]; omega), rfl⟩
        case rest =>
          obtain ⟨rfl, rfl⟩ := hcut
          rcases (by rw [c3.out]; omega : (gd + 1 < 13 * ea * t / 1000 ∧ es = 13 * ea * t / 1000) ∨ (13 * ea * t / 1000 ≤ gd + 1 ∧ es = gd + 1)) with ⟨z1, rfl⟩ | ⟨z1, rfl⟩
          all_goals
            go_wp2_with fail
            exact bodyPost_ret (v := .agg #[.int .i64 hd, .int .i64 gd, .int .i64 _]) (by simp [results, Tryd.results50, go_sem]) rfl ⟨rfl, ((Below.refl _ _).alloc (Nat.le_refl _) _).alloc (by simp) _⟩
    · have a4 : d - la = t := a3.symm
      have a5 : s ≤ t := by omega
      have a6 : t ≤ s + 30 := by omega
      clear t3 a3
      go_enter Tryd.func50, Tryd.ntmps50
      go_upto_region 8 with fail
      go_cut [6] (fun v wx => v = .int .i64 hd ∧ wx = (w.alloc (.cells #[.int .i64 b, .int .i64 n, .int .i64 s, .int .i64 ea, .int .i64 du, .int .i64 la, .int .i64 ti, .int .i64 lp, .int .i64 bu] 23)).alloc (.cells #[.int .i64 0, .int .i64 0, .int .i64 0] 74))
      case first =>
        go_wp2_with fail
        all_goals
          go_meet
          exact ⟨congrArg (Value.int .i64) (by rw [c1.out]; omega), rfl⟩
      case rest =>
        obtain ⟨rfl, rfl⟩ := hcut
        go_upto_region 9 with fail
        go_cut [7] (fun v wx => v = .int .i64 gd ∧ wx = (w.alloc (.cells #[.int .i64 b, .int .i64 n, .int .i64 s, .int .i64 ea, .int .i64 du, .int .i64 la, .int .i64 ti, .int .i64 lp, .int .i64 bu] 23)).alloc (.cells #[.int .i64 0, .int .i64 0, .int .i64 0] 74))
        case first =>
          go_wp2_with fail
          all_goals
            go_meet
            exact ⟨congrArg (Value.int .i64) (by rw [c2.out]; omega), rfl⟩
        case rest =>
          obtain ⟨rfl, rfl⟩ := hcut
          rcases (by rw [c3.out]; omega : (gd + 1 < 13 * ea * t / 1000 ∧ es = 13 * ea * t / 1000) ∨ (13 * ea * t / 1000 ≤ gd + 1 ∧ es = gd + 1)) with ⟨z1, rfl⟩ | ⟨z1, rfl⟩
          all_goals
            go_wp2_with fail
            exact bodyPost_ret (v := .agg #[.int .i64 hd, .int .i64 gd, .int .i64 _]) (by simp [results, Tryd.results50, go_sem]) rfl ⟨rfl, ((Below.refl _ _).alloc (Nat.le_refl _) _).alloc (by simp) _⟩
    · subst a3
      clear t3
      go_enter Tryd.func50, Tryd.ntmps50
      go_upto_region 8 with fail
      go_cut [6] (fun v wx => v = .int .i64 hd ∧ wx = (w.alloc (.cells #[.int .i64 b, .int .i64 n, .int .i64 t, .int .i64 ea, .int .i64 du, .int .i64 la, .int .i64 ti, .int .i64 lp, .int .i64 bu] 23)).alloc (.cells #[.int .i64 0, .int .i64 0, .int .i64 0] 74))
      case first =>
        go_wp2_with fail
        all_goals
          go_meet
          exact ⟨congrArg (Value.int .i64) (by rw [c1.out]; omega), rfl⟩
      case rest =>
        obtain ⟨rfl, rfl⟩ := hcut
        go_upto_region 9 with fail
        go_cut [7] (fun v wx => v = .int .i64 gd ∧ wx = (w.alloc (.cells #[.int .i64 b, .int .i64 n, .int .i64 t, .int .i64 ea, .int .i64 du, .int .i64 la, .int .i64 ti, .int .i64 lp, .int .i64 bu] 23)).alloc (.cells #[.int .i64 0, .int .i64 0, .int .i64 0] 74))
        case first =>
          go_wp2_with fail
          all_goals
            go_meet
            exact ⟨congrArg (Value.int .i64) (by rw [c2.out]; omega), rfl⟩
        case rest =>
          obtain ⟨rfl, rfl⟩ := hcut
          rcases (by rw [c3.out]; omega : (gd + 1 < 13 * ea * t / 1000 ∧ es = 13 * ea * t / 1000) ∨ (13 * ea * t / 1000 ≤ gd + 1 ∧ es = gd + 1)) with ⟨z1, rfl⟩ | ⟨z1, rfl⟩
          all_goals
            go_wp2_with fail
            exact bodyPost_ret (v := .agg #[.int .i64 hd, .int .i64 gd, .int .i64 _]) (by simp [results, Tryd.results50, go_sem]) rfl ⟨rfl, ((Below.refl _ _).alloc (Nat.le_refl _) _).alloc (by simp) _⟩
end Go.Proofs.YtnellkdiafglgaaDoor
