/- Cards: GradeOf of the reference. -/
import Derived.Test.YtnellkdiafglgaaDoorCdJ
namespace Go.Proofs.YtnellkdiafglgaaDoor
open Go.RowKit Go.Shelf

theorem st_set0 {w : World} {k : Nat} {a0 a1 a2 a3 a4 a5 a6 a7 a8 : Value} {t : TypeId} (v : Value) (h : w.heap[k]? = some (.cells #[a0, a1, a2, a3, a4, a5, a6, a7, a8] t (0, 0))) : (w.setCell ⟨k, 0, none⟩ v).heap[k]? = some (.cells #[v, a1, a2, a3, a4, a5, a6, a7, a8] t (0, 0)) := heap_setCell_same w k 0 _ t v h
theorem st_set1 {w : World} {k : Nat} {a0 a1 a2 a3 a4 a5 a6 a7 a8 : Value} {t : TypeId} (v : Value) (h : w.heap[k]? = some (.cells #[a0, a1, a2, a3, a4, a5, a6, a7, a8] t (0, 0))) : (w.setCell ⟨k, 1, none⟩ v).heap[k]? = some (.cells #[a0, v, a2, a3, a4, a5, a6, a7, a8] t (0, 0)) := heap_setCell_same w k 1 _ t v h
theorem st_set2 {w : World} {k : Nat} {a0 a1 a2 a3 a4 a5 a6 a7 a8 : Value} {t : TypeId} (v : Value) (h : w.heap[k]? = some (.cells #[a0, a1, a2, a3, a4, a5, a6, a7, a8] t (0, 0))) : (w.setCell ⟨k, 2, none⟩ v).heap[k]? = some (.cells #[a0, a1, v, a3, a4, a5, a6, a7, a8] t (0, 0)) := heap_setCell_same w k 2 _ t v h
theorem st_set3 {w : World} {k : Nat} {a0 a1 a2 a3 a4 a5 a6 a7 a8 : Value} {t : TypeId} (v : Value) (h : w.heap[k]? = some (.cells #[a0, a1, a2, a3, a4, a5, a6, a7, a8] t (0, 0))) : (w.setCell ⟨k, 3, none⟩ v).heap[k]? = some (.cells #[a0, a1, a2, v, a4, a5, a6, a7, a8] t (0, 0)) := heap_setCell_same w k 3 _ t v h
theorem st_set4 {w : World} {k : Nat} {a0 a1 a2 a3 a4 a5 a6 a7 a8 : Value} {t : TypeId} (v : Value) (h : w.heap[k]? = some (.cells #[a0, a1, a2, a3, a4, a5, a6, a7, a8] t (0, 0))) : (w.setCell ⟨k, 4, none⟩ v).heap[k]? = some (.cells #[a0, a1, a2, a3, v, a5, a6, a7, a8] t (0, 0)) := heap_setCell_same w k 4 _ t v h
theorem st_set5 {w : World} {k : Nat} {a0 a1 a2 a3 a4 a5 a6 a7 a8 : Value} {t : TypeId} (v : Value) (h : w.heap[k]? = some (.cells #[a0, a1, a2, a3, a4, a5, a6, a7, a8] t (0, 0))) : (w.setCell ⟨k, 5, none⟩ v).heap[k]? = some (.cells #[a0, a1, a2, a3, a4, v, a6, a7, a8] t (0, 0)) := heap_setCell_same w k 5 _ t v h
theorem st_set6 {w : World} {k : Nat} {a0 a1 a2 a3 a4 a5 a6 a7 a8 : Value} {t : TypeId} (v : Value) (h : w.heap[k]? = some (.cells #[a0, a1, a2, a3, a4, a5, a6, a7, a8] t (0, 0))) : (w.setCell ⟨k, 6, none⟩ v).heap[k]? = some (.cells #[a0, a1, a2, a3, a4, a5, v, a7, a8] t (0, 0)) := heap_setCell_same w k 6 _ t v h
theorem st_set7 {w : World} {k : Nat} {a0 a1 a2 a3 a4 a5 a6 a7 a8 : Value} {t : TypeId} (v : Value) (h : w.heap[k]? = some (.cells #[a0, a1, a2, a3, a4, a5, a6, a7, a8] t (0, 0))) : (w.setCell ⟨k, 7, none⟩ v).heap[k]? = some (.cells #[a0, a1, a2, a3, a4, a5, a6, v, a8] t (0, 0)) := heap_setCell_same w k 7 _ t v h
theorem st_set8 {w : World} {k : Nat} {a0 a1 a2 a3 a4 a5 a6 a7 a8 : Value} {t : TypeId} (v : Value) (h : w.heap[k]? = some (.cells #[a0, a1, a2, a3, a4, a5, a6, a7, a8] t (0, 0))) : (w.setCell ⟨k, 8, none⟩ v).heap[k]? = some (.cells #[a0, a1, a2, a3, a4, a5, a6, a7, v] t (0, 0)) := heap_setCell_same w k 8 _ t v h
set_option maxRecDepth 100000 in
set_option maxHeartbeats 8000000 in
theorem gradeOf_bad (x : StV) (g d : Int) (w : World) (h : gradeE x g d ≠ 0) :
    Calls Tryd.prog 19 #[x.v, .int .i64 g, .int .i64 d] w fun e w' => e = .returned (.tuple #[StV.zero.v, .int .i64 (gradeE x g d)]) ∧ Below w.heap.size w w' := by
  have HCK := Lib.hid (fun W => stateFault_any x W)
  have HID := Lib.hid (fun W => refIsDay_p d W)
  rw [zero_v]
  by_cases hs : stE x = 0
  case neg =>
    rw [gradeE_state hs]
    have hs' : (stE x != 0) = true := bne_iff_ne.2 hs
    clear h hs
    generalize stE x = E at *
    obtain ⟨b, n, s, ea, du, la, ti, lp, bu⟩ := x
    unfold StV.v StV.cells at *
    dsimp only at *
    have hb0 := ((Below.refl w.heap.size w).alloc (Nat.le_refl _) (.cells #[.int .i64 b, .int .i64 n, .int .i64 s, .int .i64 ea, .int .i64 du, .int .i64 la, .int .i64 ti, .int .i64 lp, .int .i64 bu] 23)).alloc (by simp) (.cells #[.int .i64 0, .int .i64 0, .int .i64 0, .int .i64 0, .int .i64 0, .int .i64 0, .int .i64 0, .int .i64 0, .int .i64 0] 23)
    go_enter Tryd.func19, Tryd.ntmps19
    go_wp2_with fail
    refine (HCK.out _).mono ?_
    rintro e1 w1 ⟨rfl, hb1⟩
    have HB1 := Lib.hid (hb0.trans (hb1.mono (by simp; omega)))
    have hx1 : w1.heap[w.heap.size]? = some (.cells #[.int .i64 b, .int .i64 n, .int .i64 s, .int .i64 ea, .int .i64 du, .int .i64 la, .int .i64 ti, .int .i64 lp, .int .i64 bu] 23 (0, 0)) := (hb1.block _ (by simp; omega)).trans ((Below.heap_alloc _ _ _ (by simp)).trans (heap_alloc_new w _))
    have hx2 : w1.heap[w.heap.size + 1]? = some (.cells #[.int .i64 0, .int .i64 0, .int .i64 0, .int .i64 0, .int .i64 0, .int .i64 0, .int .i64 0, .int .i64 0, .int .i64 0] 23 (0, 0)) := (hb1.block _ (by simp)).trans (by have := heap_alloc_new (w.alloc (.cells #[.int .i64 b, .int .i64 n, .int .i64 s, .int .i64 ea, .int .i64 du, .int .i64 la, .int .i64 ti, .int .i64 lp, .int .i64 bu] 23)) (.cells #[.int .i64 0, .int .i64 0, .int .i64 0, .int .i64 0, .int .i64 0, .int .i64 0, .int .i64 0, .int .i64 0, .int .i64 0] 23); simpa using this)
    have HX2 := Lib.hid hx2
    clear hb0 hb1
    obtain ⟨y0, y1, y2, y3, y4, y5, y6, y7, y8⟩ := st_nine hx1
    obtain ⟨z0, z1, z2, z3, z4, z5, z6, z7, z8⟩ := st_nine hx2
    obtain ⟨g0, g1, g2, g3, g4, g5, g6, g7, g8⟩ := st_nofrost hx2
    clear hx1 hx2
    have HBL := HB1
    go_wp2_with fail
    refine bodyPost_ret (v := .tuple #[.agg #[.int .i64 0, .int .i64 0, .int .i64 0, .int .i64 0, .int .i64 0, .int .i64 0, .int .i64 0, .int .i64 0, .int .i64 0], .int .i64 E]) ?_ rfl ⟨rfl, ?_⟩
    · simp only [results, Tryd.results19]
      go_simp
    · repeat (with_reducible refine Below.setCell ?_ (by simp) _)
      exact HBL.out
  case pos =>
    rw [hs] at HCK
    have hla := (stE_ok hs).1.2.2.2.2.2.1.1
    by_cases hg : 1 ≤ g ∧ g ≤ 4
    case neg =>
      rw [gradeE_kind hs hg]
      rcases (by omega : g < 1 ∨ (1 ≤ g ∧ 4 < g)) with k1 | ⟨k1, k2⟩
      all_goals
        clear h hs hg
        obtain ⟨b, n, s, ea, du, la, ti, lp, bu⟩ := x
        unfold StV.v StV.cells at *
        dsimp only at *
        have hb0 := ((Below.refl w.heap.size w).alloc (Nat.le_refl _) (.cells #[.int .i64 b, .int .i64 n, .int .i64 s, .int .i64 ea, .int .i64 du, .int .i64 la, .int .i64 ti, .int .i64 lp, .int .i64 bu] 23)).alloc (by simp) (.cells #[.int .i64 0, .int .i64 0, .int .i64 0, .int .i64 0, .int .i64 0, .int .i64 0, .int .i64 0, .int .i64 0, .int .i64 0] 23)
        go_enter Tryd.func19, Tryd.ntmps19
        go_wp2_with fail
        refine (HCK.out _).mono ?_
        rintro e1 w1 ⟨rfl, hb1⟩
        have HB1 := Lib.hid (hb0.trans (hb1.mono (by simp; omega)))
        have hx1 : w1.heap[w.heap.size]? = some (.cells #[.int .i64 b, .int .i64 n, .int .i64 s, .int .i64 ea, .int .i64 du, .int .i64 la, .int .i64 ti, .int .i64 lp, .int .i64 bu] 23 (0, 0)) := (hb1.block _ (by simp; omega)).trans ((Below.heap_alloc _ _ _ (by simp)).trans (heap_alloc_new w _))
        have hx2 : w1.heap[w.heap.size + 1]? = some (.cells #[.int .i64 0, .int .i64 0, .int .i64 0, .int .i64 0, .int .i64 0, .int .i64 0, .int .i64 0, .int .i64 0, .int .i64 0] 23 (0, 0)) := (hb1.block _ (by simp)).trans (by have := heap_alloc_new (w.alloc (.cells #[.int .i64 b, .int .i64 n, .int .i64 s, .int .i64 ea, .int .i64 du, .int .i64 la, .int .i64 ti, .int .i64 lp, .int .i64 bu] 23)) (.cells #[.int .i64 0, .int .i64 0, .int .i64 0, .int .i64 0, .int .i64 0, .int .i64 0, .int .i64 0, .int .i64 0, .int .i64 0] 23); simpa using this)
        have HX2 := Lib.hid hx2
        clear hb0 hb1
        obtain ⟨y0, y1, y2, y3, y4, y5, y6, y7, y8⟩ := st_nine hx1
        obtain ⟨z0, z1, z2, z3, z4, z5, z6, z7, z8⟩ := st_nine hx2
        obtain ⟨g0, g1, g2, g3, g4, g5, g6, g7, g8⟩ := st_nofrost hx2
        clear hx1 hx2
        have HBL := HB1
        go_wp2_with fail
        refine bodyPost_ret (v := .tuple #[.agg #[.int .i64 0, .int .i64 0, .int .i64 0, .int .i64 0, .int .i64 0, .int .i64 0, .int .i64 0, .int .i64 0, .int .i64 0], .int .i64 10]) ?_ rfl ⟨rfl, ?_⟩
        · simp only [results, Tryd.results19]
          go_simp
        · repeat (with_reducible refine Below.setCell ?_ (by simp) _)
          exact HBL.out
    case pos =>
      obtain ⟨k1, k2⟩ := hg
      have hg : 1 ≤ g ∧ g ≤ 4 := ⟨k1, k2⟩
      by_cases hd : 0 ≤ d ∧ d ≤ 100000
      case neg =>
        rw [gradeE_day hs hg hd]
        rw [pFrom_false hd] at HID
        clear h hs hg hd
        obtain ⟨b, n, s, ea, du, la, ti, lp, bu⟩ := x
        unfold StV.v StV.cells at *
        dsimp only at *
        have hb0 := ((Below.refl w.heap.size w).alloc (Nat.le_refl _) (.cells #[.int .i64 b, .int .i64 n, .int .i64 s, .int .i64 ea, .int .i64 du, .int .i64 la, .int .i64 ti, .int .i64 lp, .int .i64 bu] 23)).alloc (by simp) (.cells #[.int .i64 0, .int .i64 0, .int .i64 0, .int .i64 0, .int .i64 0, .int .i64 0, .int .i64 0, .int .i64 0, .int .i64 0] 23)
        go_enter Tryd.func19, Tryd.ntmps19
        go_wp2_with fail
        refine (HCK.out _).mono ?_
        rintro e1 w1 ⟨rfl, hb1⟩
        have HB1 := Lib.hid (hb0.trans (hb1.mono (by simp; omega)))
        have hx1 : w1.heap[w.heap.size]? = some (.cells #[.int .i64 b, .int .i64 n, .int .i64 s, .int .i64 ea, .int .i64 du, .int .i64 la, .int .i64 ti, .int .i64 lp, .int .i64 bu] 23 (0, 0)) := (hb1.block _ (by simp; omega)).trans ((Below.heap_alloc _ _ _ (by simp)).trans (heap_alloc_new w _))
        have hx2 : w1.heap[w.heap.size + 1]? = some (.cells #[.int .i64 0, .int .i64 0, .int .i64 0, .int .i64 0, .int .i64 0, .int .i64 0, .int .i64 0, .int .i64 0, .int .i64 0] 23 (0, 0)) := (hb1.block _ (by simp)).trans (by have := heap_alloc_new (w.alloc (.cells #[.int .i64 b, .int .i64 n, .int .i64 s, .int .i64 ea, .int .i64 du, .int .i64 la, .int .i64 ti, .int .i64 lp, .int .i64 bu] 23)) (.cells #[.int .i64 0, .int .i64 0, .int .i64 0, .int .i64 0, .int .i64 0, .int .i64 0, .int .i64 0, .int .i64 0, .int .i64 0] 23); simpa using this)
        have HX2 := Lib.hid hx2
        clear hb0 hb1
        obtain ⟨y0, y1, y2, y3, y4, y5, y6, y7, y8⟩ := st_nine hx1
        obtain ⟨z0, z1, z2, z3, z4, z5, z6, z7, z8⟩ := st_nine hx2
        obtain ⟨g0, g1, g2, g3, g4, g5, g6, g7, g8⟩ := st_nofrost hx2
        clear hx1 hx2
        go_wp2_with fail
        refine (HID.out _).mono ?_
        rintro e2 w2 ⟨rfl, rfl⟩
        have HBL := HB1
        go_wp2_with fail
        refine bodyPost_ret (v := .tuple #[.agg #[.int .i64 0, .int .i64 0, .int .i64 0, .int .i64 0, .int .i64 0, .int .i64 0, .int .i64 0, .int .i64 0, .int .i64 0], .int .i64 2]) ?_ rfl ⟨rfl, ?_⟩
        · simp only [results, Tryd.results19]
          go_simp
        · repeat (with_reducible refine Below.setCell ?_ (by simp) _)
          exact HBL.out
      case pos =>
        rw [pFrom_true hd] at HID
        by_cases hlt : d < x.la
        case neg => exact absurd (gradeE_good hs hg hd hlt) h
        case pos =>
          rw [gradeE_order hs hg hd hlt]
          clear h hs hg hd
          obtain ⟨b, n, s, ea, du, la, ti, lp, bu⟩ := x
          unfold StV.v StV.cells at *
          dsimp only at *
          have hb0 := ((Below.refl w.heap.size w).alloc (Nat.le_refl _) (.cells #[.int .i64 b, .int .i64 n, .int .i64 s, .int .i64 ea, .int .i64 du, .int .i64 la, .int .i64 ti, .int .i64 lp, .int .i64 bu] 23)).alloc (by simp) (.cells #[.int .i64 0, .int .i64 0, .int .i64 0, .int .i64 0, .int .i64 0, .int .i64 0, .int .i64 0, .int .i64 0, .int .i64 0] 23)
          go_enter Tryd.func19, Tryd.ntmps19
          go_wp2_with fail
          refine (HCK.out _).mono ?_
          rintro e1 w1 ⟨rfl, hb1⟩
          have HB1 := Lib.hid (hb0.trans (hb1.mono (by simp; omega)))
          have hx1 : w1.heap[w.heap.size]? = some (.cells #[.int .i64 b, .int .i64 n, .int .i64 s, .int .i64 ea, .int .i64 du, .int .i64 la, .int .i64 ti, .int .i64 lp, .int .i64 bu] 23 (0, 0)) := (hb1.block _ (by simp; omega)).trans ((Below.heap_alloc _ _ _ (by simp)).trans (heap_alloc_new w _))
          have hx2 : w1.heap[w.heap.size + 1]? = some (.cells #[.int .i64 0, .int .i64 0, .int .i64 0, .int .i64 0, .int .i64 0, .int .i64 0, .int .i64 0, .int .i64 0, .int .i64 0] 23 (0, 0)) := (hb1.block _ (by simp)).trans (by have := heap_alloc_new (w.alloc (.cells #[.int .i64 b, .int .i64 n, .int .i64 s, .int .i64 ea, .int .i64 du, .int .i64 la, .int .i64 ti, .int .i64 lp, .int .i64 bu] 23)) (.cells #[.int .i64 0, .int .i64 0, .int .i64 0, .int .i64 0, .int .i64 0, .int .i64 0, .int .i64 0, .int .i64 0, .int .i64 0] 23); simpa using this)
          have HX2 := Lib.hid hx2
          clear hb0 hb1
          obtain ⟨y0, y1, y2, y3, y4, y5, y6, y7, y8⟩ := st_nine hx1
          obtain ⟨z0, z1, z2, z3, z4, z5, z6, z7, z8⟩ := st_nine hx2
          obtain ⟨g0, g1, g2, g3, g4, g5, g6, g7, g8⟩ := st_nofrost hx2
          clear hx1 hx2
          go_wp2_with fail
          refine (HID.out _).mono ?_
          rintro e2 w2 ⟨rfl, rfl⟩
          have HBL := HB1
          go_wp2_with fail
          refine bodyPost_ret (v := .tuple #[.agg #[.int .i64 0, .int .i64 0, .int .i64 0, .int .i64 0, .int .i64 0, .int .i64 0, .int .i64 0, .int .i64 0, .int .i64 0], .int .i64 5]) ?_ rfl ⟨rfl, ?_⟩
          · simp only [results, Tryd.results19]
            go_simp
          · repeat (with_reducible refine Below.setCell ?_ (by simp) _)
            exact HBL.out
set_option maxRecDepth 100000 in
set_option maxHeartbeats 8000000 in
theorem gradeOf_1s (x : StV) (d : Int) (w : World) (h : gradeE x 1 d = 0) (hs : 0 < x.st) :
    Calls Tryd.prog 19 #[x.v, .int .i64 1, .int .i64 d] w fun e w' => e = .returned (.tuple #[(gradedV x 1 d).v, .int .i64 0]) ∧ Below w.heap.size w w' := by
  have HCK := Lib.hid (fun W => stateFault_any x W)
  have HID := Lib.hid (fun W => refIsDay_p d W)
  obtain ⟨h1, -, -, hd0, hd1, hlt⟩ := gradeE_ok h
  have HSS := Lib.hid (fun W => steps_any x d W (stE_ok h1).1 hlt hd1)
  have hst := step_bd (d := d) (stE_ok h1).1
  have hr := (stE_ok h1).1
  unfold inRng at hr
  rw [h1] at HCK
  rw [pFrom_true ⟨hd0, hd1⟩] at HID
  obtain ⟨q1, q2, q3, q4, q5⟩ := gradedV_eqs x 1 d
  rw [gradedV_v]
  have a1 : stepOf x 1 d = 0 := by unfold stepOf; simp
  have a2 : easeBy 1 = -20 := by unfold easeBy; simp
  rw [a1] at q1 q3
  rw [a2] at q2
  generalize (gradedV x 1 d).st = S' at *
  generalize (gradedV x 1 d).ea = E' at *
  generalize (gradedV x 1 d).du = D' at *
  generalize (gradedV x 1 d).ti = T' at *
  generalize (gradedV x 1 d).lp = L' at *
  generalize hardOf x d = hd at *
  generalize goodOf x d = gd at *
  generalize easyOf x d = es at *
  obtain ⟨k1, k2, k3, k4, k5, k6⟩ := hst
  have hs0 : 0 ≤ x.st := hr.2.2.1.1
  have hs1 : x.st ≤ 3650 := hr.2.2.1.2
  have he0 : 130 ≤ x.ea := hr.2.2.2.1.1
  have he1 : x.ea ≤ 400 := hr.2.2.2.1.2
  have hti0 : 0 ≤ x.ti := hr.2.2.2.2.2.2.1.1
  have hti1 : x.ti ≤ 20000 := hr.2.2.2.2.2.2.1.2
  have hlp0 : 0 ≤ x.lp := hr.2.2.2.2.2.2.2.1.1
  have hlp1 : x.lp ≤ 20000 := hr.2.2.2.2.2.2.2.1.2
  have hlt2 : ¬ d < x.la := by omega
  clear hr h h1 a1 a2 hlt
  obtain ⟨b, n, s, ea, du, la, ti, lp, bu⟩ := x
  unfold StV.v StV.cells at *
  dsimp only at *
  rw [if_pos ⟨rfl, hs⟩] at q5
  have c1 : 0 ≤ S' ∧ S' ≤ 3650 := by omega
  obtain ⟨c1, c2⟩ := c1
  obtain rfl : S' = 0 := by omega
  have r2 : (if ea + (-20) < 130 then (130 : Int) else ea + (-20)) = E' := by split <;> omega
  have r2b : (if ea - 20 < 130 then (130 : Int) else ea - 20) = E' := by split <;> omega
  have e1 : E' ≤ 400 := by omega
  have r5 : (if 100000 < d + 1 then (100000 : Int) else d + 1) = D' := by split <;> omega
  have r6 : (if 20000 < ti + 1 then (20000 : Int) else ti + 1) = T' := by split <;> omega
  have r7 : (if 20000 < lp + 1 then (20000 : Int) else lp + 1) = L' := by split <;> omega
  clear q1 q2 q3 q4
  clear q5
  have hb0 := ((Below.refl w.heap.size w).alloc (Nat.le_refl _) (.cells #[.int .i64 b, .int .i64 n, .int .i64 s, .int .i64 ea, .int .i64 du, .int .i64 la, .int .i64 ti, .int .i64 lp, .int .i64 bu] 23)).alloc (by simp) (.cells #[.int .i64 0, .int .i64 0, .int .i64 0, .int .i64 0, .int .i64 0, .int .i64 0, .int .i64 0, .int .i64 0, .int .i64 0] 23)
  go_enter Tryd.func19, Tryd.ntmps19
  go_wp2_with fail
  refine (HCK.out _).mono ?_
  rintro e1 w1 ⟨rfl, hb1⟩
  have HB1 := Lib.hid (hb0.trans (hb1.mono (by simp; omega)))
  have hx1 : w1.heap[w.heap.size]? = some (.cells #[.int .i64 b, .int .i64 n, .int .i64 s, .int .i64 ea, .int .i64 du, .int .i64 la, .int .i64 ti, .int .i64 lp, .int .i64 bu] 23 (0, 0)) := (hb1.block _ (by simp; omega)).trans ((Below.heap_alloc _ _ _ (by simp)).trans (heap_alloc_new w _))
  have hx2 : w1.heap[w.heap.size + 1]? = some (.cells #[.int .i64 0, .int .i64 0, .int .i64 0, .int .i64 0, .int .i64 0, .int .i64 0, .int .i64 0, .int .i64 0, .int .i64 0] 23 (0, 0)) := (hb1.block _ (by simp)).trans (by have := heap_alloc_new (w.alloc (.cells #[.int .i64 b, .int .i64 n, .int .i64 s, .int .i64 ea, .int .i64 du, .int .i64 la, .int .i64 ti, .int .i64 lp, .int .i64 bu] 23)) (.cells #[.int .i64 0, .int .i64 0, .int .i64 0, .int .i64 0, .int .i64 0, .int .i64 0, .int .i64 0, .int .i64 0, .int .i64 0] 23); simpa using this)
  have HX2 := Lib.hid hx2
  have HX1 := Lib.hid hx1
  have lt1 := lt_of_block hx2
  have lt0 : w.heap.size < w1.heap.size := by omega
  clear hb0 hb1
  obtain ⟨y0, y1, y2, y3, y4, y5, y6, y7, y8⟩ := st_nine hx1
  obtain ⟨z0, z1, z2, z3, z4, z5, z6, z7, z8⟩ := st_nine hx2
  obtain ⟨g0, g1, g2, g3, g4, g5, g6, g7, g8⟩ := st_nofrost hx2
  clear hx1 hx2
  go_wp2_with fail
  refine (HID.out _).mono ?_
  rintro e2 w2 ⟨rfl, rfl⟩
  go_wp2_with fail
  go_region
  go_wp2_with fail
  refine bodyPost_ret (v := .tuple #[.agg #[.int .i64 b, .int .i64 n, .int .i64 0, .int .i64 E', .int .i64 D', .int .i64 d, .int .i64 T', .int .i64 L', .int .i64 (-1)], .int .i64 0]) ?_ rfl ⟨rfl, ?_⟩
  · simp only [results, Tryd.results19]
    go_simp
  · with_reducible refine Below.drew ?_
    with_reducible refine Below.alloc ?_ (by simp; omega) _
    repeat (with_reducible refine Below.setCell ?_ (by simp) _)
    exact HB1.out
set_option maxRecDepth 100000 in
set_option maxHeartbeats 8000000 in
theorem gradeOf_1z (x : StV) (d : Int) (w : World) (h : gradeE x 1 d = 0) (hs : x.st = 0) :
    Calls Tryd.prog 19 #[x.v, .int .i64 1, .int .i64 d] w fun e w' => e = .returned (.tuple #[(gradedV x 1 d).v, .int .i64 0]) ∧ Below w.heap.size w w' := by
  have HCK := Lib.hid (fun W => stateFault_any x W)
  have HID := Lib.hid (fun W => refIsDay_p d W)
  obtain ⟨h1, -, -, hd0, hd1, hlt⟩ := gradeE_ok h
  have HSS := Lib.hid (fun W => steps_any x d W (stE_ok h1).1 hlt hd1)
  have hst := step_bd (d := d) (stE_ok h1).1
  have hr := (stE_ok h1).1
  unfold inRng at hr
  rw [h1] at HCK
  rw [pFrom_true ⟨hd0, hd1⟩] at HID
  obtain ⟨q1, q2, q3, q4, q5⟩ := gradedV_eqs x 1 d
  rw [gradedV_v]
  have a1 : stepOf x 1 d = 0 := by unfold stepOf; simp
  have a2 : easeBy 1 = -20 := by unfold easeBy; simp
  rw [a1] at q1 q3
  rw [a2] at q2
  generalize (gradedV x 1 d).st = S' at *
  generalize (gradedV x 1 d).ea = E' at *
  generalize (gradedV x 1 d).du = D' at *
  generalize (gradedV x 1 d).ti = T' at *
  generalize (gradedV x 1 d).lp = L' at *
  generalize hardOf x d = hd at *
  generalize goodOf x d = gd at *
  generalize easyOf x d = es at *
  obtain ⟨k1, k2, k3, k4, k5, k6⟩ := hst
  have hs0 : 0 ≤ x.st := hr.2.2.1.1
  have hs1 : x.st ≤ 3650 := hr.2.2.1.2
  have he0 : 130 ≤ x.ea := hr.2.2.2.1.1
  have he1 : x.ea ≤ 400 := hr.2.2.2.1.2
  have hti0 : 0 ≤ x.ti := hr.2.2.2.2.2.2.1.1
  have hti1 : x.ti ≤ 20000 := hr.2.2.2.2.2.2.1.2
  have hlp0 : 0 ≤ x.lp := hr.2.2.2.2.2.2.2.1.1
  have hlp1 : x.lp ≤ 20000 := hr.2.2.2.2.2.2.2.1.2
  have hlt2 : ¬ d < x.la := by omega
  clear hr h h1 a1 a2 hlt
  obtain ⟨b, n, s, ea, du, la, ti, lp, bu⟩ := x
  unfold StV.v StV.cells at *
  dsimp only at *
  rw [if_neg (fun h => by have := h.2; omega)] at q5
  subst hs
  have c1 : 0 ≤ S' ∧ S' ≤ 3650 := by omega
  obtain ⟨c1, c2⟩ := c1
  obtain rfl : S' = 0 := by omega
  have r2 : (if ea + (-20) < 130 then (130 : Int) else ea + (-20)) = E' := by split <;> omega
  have r2b : (if ea - 20 < 130 then (130 : Int) else ea - 20) = E' := by split <;> omega
  have e1 : E' ≤ 400 := by omega
  have r5 : (if 100000 < d + 1 then (100000 : Int) else d + 1) = D' := by split <;> omega
  have r6 : (if 20000 < ti + 1 then (20000 : Int) else ti + 1) = T' := by split <;> omega
  subst q5
  clear q1 q2 q3 q4
  have hb0 := ((Below.refl w.heap.size w).alloc (Nat.le_refl _) (.cells #[.int .i64 b, .int .i64 n, .int .i64 0, .int .i64 ea, .int .i64 du, .int .i64 la, .int .i64 ti, .int .i64 L', .int .i64 bu] 23)).alloc (by simp) (.cells #[.int .i64 0, .int .i64 0, .int .i64 0, .int .i64 0, .int .i64 0, .int .i64 0, .int .i64 0, .int .i64 0, .int .i64 0] 23)
  go_enter Tryd.func19, Tryd.ntmps19
  go_wp2_with fail
  refine (HCK.out _).mono ?_
  rintro e1 w1 ⟨rfl, hb1⟩
  have HB1 := Lib.hid (hb0.trans (hb1.mono (by simp; omega)))
  have hx1 : w1.heap[w.heap.size]? = some (.cells #[.int .i64 b, .int .i64 n, .int .i64 0, .int .i64 ea, .int .i64 du, .int .i64 la, .int .i64 ti, .int .i64 L', .int .i64 bu] 23 (0, 0)) := (hb1.block _ (by simp; omega)).trans ((Below.heap_alloc _ _ _ (by simp)).trans (heap_alloc_new w _))
  have hx2 : w1.heap[w.heap.size + 1]? = some (.cells #[.int .i64 0, .int .i64 0, .int .i64 0, .int .i64 0, .int .i64 0, .int .i64 0, .int .i64 0, .int .i64 0, .int .i64 0] 23 (0, 0)) := (hb1.block _ (by simp)).trans (by have := heap_alloc_new (w.alloc (.cells #[.int .i64 b, .int .i64 n, .int .i64 0, .int .i64 ea, .int .i64 du, .int .i64 la, .int .i64 ti, .int .i64 L', .int .i64 bu] 23)) (.cells #[.int .i64 0, .int .i64 0, .int .i64 0, .int .i64 0, .int .i64 0, .int .i64 0, .int .i64 0, .int .i64 0, .int .i64 0] 23); simpa using this)
  have HX2 := Lib.hid hx2
  have HX1 := Lib.hid hx1
  have lt1 := lt_of_block hx2
  have lt0 : w.heap.size < w1.heap.size := by omega
  clear hb0 hb1
  obtain ⟨y0, y1, y2, y3, y4, y5, y6, y7, y8⟩ := st_nine hx1
  obtain ⟨z0, z1, z2, z3, z4, z5, z6, z7, z8⟩ := st_nine hx2
  obtain ⟨g0, g1, g2, g3, g4, g5, g6, g7, g8⟩ := st_nofrost hx2
  clear hx1 hx2
  go_wp2_with fail
  refine (HID.out _).mono ?_
  rintro e2 w2 ⟨rfl, rfl⟩
  go_wp2_with fail
  go_region
  go_wp2_with fail
  refine bodyPost_ret (v := .tuple #[.agg #[.int .i64 b, .int .i64 n, .int .i64 0, .int .i64 E', .int .i64 D', .int .i64 d, .int .i64 T', .int .i64 L', .int .i64 (-1)], .int .i64 0]) ?_ rfl ⟨rfl, ?_⟩
  · simp only [results, Tryd.results19]
    go_simp
  · with_reducible refine Below.drew ?_
    with_reducible refine Below.alloc ?_ (by simp; omega) _
    repeat (with_reducible refine Below.setCell ?_ (by simp) _)
    exact HB1.out
set_option maxRecDepth 100000 in
set_option maxHeartbeats 8000000 in
theorem gradeOf_2 (x : StV) (d : Int) (w : World) (h : gradeE x 2 d = 0) :
    Calls Tryd.prog 19 #[x.v, .int .i64 2, .int .i64 d] w fun e w' => e = .returned (.tuple #[(gradedV x 2 d).v, .int .i64 0]) ∧ Below w.heap.size w w' := by
  have HCK := Lib.hid (fun W => stateFault_any x W)
  have HID := Lib.hid (fun W => refIsDay_p d W)
  have i0 : ∀ (a b c : Value) (w : World), (Instr.index 74 (.agg #[a, b, c]) (.int .i64 0)).run Tryd.prog w = .ok a w := fun _ _ _ _ => by kernel_rfl
  have i1 : ∀ (a b c : Value) (w : World), (Instr.index 74 (.agg #[a, b, c]) (.int .i64 1)).run Tryd.prog w = .ok b w := fun _ _ _ _ => by kernel_rfl
  have i2 : ∀ (a b c : Value) (w : World), (Instr.index 74 (.agg #[a, b, c]) (.int .i64 2)).run Tryd.prog w = .ok c w := fun _ _ _ _ => by kernel_rfl
  obtain ⟨h1, -, -, hd0, hd1, hlt⟩ := gradeE_ok h
  have HSS := Lib.hid (fun W => steps_any x d W (stE_ok h1).1 hlt hd1)
  have hst := step_bd (d := d) (stE_ok h1).1
  have hr := (stE_ok h1).1
  unfold inRng at hr
  rw [h1] at HCK
  rw [pFrom_true ⟨hd0, hd1⟩] at HID
  obtain ⟨q1, q2, q3, q4, q5⟩ := gradedV_eqs x 2 d
  rw [gradedV_v]
  have a1 : stepOf x 2 d = hardOf x d := by unfold stepOf; simp
  have a2 : easeBy 2 = -15 := by unfold easeBy; simp
  rw [a1] at q1 q3
  rw [a2] at q2
  generalize (gradedV x 2 d).st = S' at *
  generalize (gradedV x 2 d).ea = E' at *
  generalize (gradedV x 2 d).du = D' at *
  generalize (gradedV x 2 d).ti = T' at *
  generalize (gradedV x 2 d).lp = L' at *
  generalize hardOf x d = hd at *
  generalize goodOf x d = gd at *
  generalize easyOf x d = es at *
  obtain ⟨k1, k2, k3, k4, k5, k6⟩ := hst
  have hs0 : 0 ≤ x.st := hr.2.2.1.1
  have hs1 : x.st ≤ 3650 := hr.2.2.1.2
  have he0 : 130 ≤ x.ea := hr.2.2.2.1.1
  have he1 : x.ea ≤ 400 := hr.2.2.2.1.2
  have hti0 : 0 ≤ x.ti := hr.2.2.2.2.2.2.1.1
  have hti1 : x.ti ≤ 20000 := hr.2.2.2.2.2.2.1.2
  have hlp0 : 0 ≤ x.lp := hr.2.2.2.2.2.2.2.1.1
  have hlp1 : x.lp ≤ 20000 := hr.2.2.2.2.2.2.2.1.2
  have hlt2 : ¬ d < x.la := by omega
  clear hr h h1 a1 a2 hlt
  obtain ⟨b, n, s, ea, du, la, ti, lp, bu⟩ := x
  unfold StV.v StV.cells at *
  dsimp only at *
  rw [if_neg (by simp)] at q5
  have c1 : 1 ≤ S' ∧ S' ≤ 3650 := by omega
  obtain ⟨c1, c2⟩ := c1
  have r1 : (if 3650 < hd then (3650 : Int) else hd) = S' := by split <;> omega
  have r2 : (if ea + (-15) < 130 then (130 : Int) else ea + (-15)) = E' := by split <;> omega
  have r2b : (if ea - 15 < 130 then (130 : Int) else ea - 15) = E' := by split <;> omega
  have e1 : E' ≤ 400 := by omega
  have r5 : (if 100000 < d + S' then (100000 : Int) else d + S') = D' := by split <;> omega
  have r6 : (if 20000 < ti + 1 then (20000 : Int) else ti + 1) = T' := by split <;> omega
  subst q5
  clear q1 q2 q3 q4
  have hb0 := ((Below.refl w.heap.size w).alloc (Nat.le_refl _) (.cells #[.int .i64 b, .int .i64 n, .int .i64 s, .int .i64 ea, .int .i64 du, .int .i64 la, .int .i64 ti, .int .i64 L', .int .i64 bu] 23)).alloc (by simp) (.cells #[.int .i64 0, .int .i64 0, .int .i64 0, .int .i64 0, .int .i64 0, .int .i64 0, .int .i64 0, .int .i64 0, .int .i64 0] 23)
  go_enter Tryd.func19, Tryd.ntmps19
  go_wp2_with fail
  refine (HCK.out _).mono ?_
  rintro e1 w1 ⟨rfl, hb1⟩
  have HB1 := Lib.hid (hb0.trans (hb1.mono (by simp; omega)))
  have hx1 : w1.heap[w.heap.size]? = some (.cells #[.int .i64 b, .int .i64 n, .int .i64 s, .int .i64 ea, .int .i64 du, .int .i64 la, .int .i64 ti, .int .i64 L', .int .i64 bu] 23 (0, 0)) := (hb1.block _ (by simp; omega)).trans ((Below.heap_alloc _ _ _ (by simp)).trans (heap_alloc_new w _))
  have hx2 : w1.heap[w.heap.size + 1]? = some (.cells #[.int .i64 0, .int .i64 0, .int .i64 0, .int .i64 0, .int .i64 0, .int .i64 0, .int .i64 0, .int .i64 0, .int .i64 0] 23 (0, 0)) := (hb1.block _ (by simp)).trans (by have := heap_alloc_new (w.alloc (.cells #[.int .i64 b, .int .i64 n, .int .i64 s, .int .i64 ea, .int .i64 du, .int .i64 la, .int .i64 ti, .int .i64 L', .int .i64 bu] 23)) (.cells #[.int .i64 0, .int .i64 0, .int .i64 0, .int .i64 0, .int .i64 0, .int .i64 0, .int .i64 0, .int .i64 0, .int .i64 0] 23); simpa using this)
  have HX2 := Lib.hid hx2
  have HX1 := Lib.hid hx1
  have lt1 := lt_of_block hx2
  have lt0 : w.heap.size < w1.heap.size := by omega
  clear hb0 hb1
  obtain ⟨y0, y1, y2, y3, y4, y5, y6, y7, y8⟩ := st_nine hx1
  obtain ⟨z0, z1, z2, z3, z4, z5, z6, z7, z8⟩ := st_nine hx2
  obtain ⟨g0, g1, g2, g3, g4, g5, g6, g7, g8⟩ := st_nofrost hx2
  clear hx1 hx2
  go_wp2_with fail
  refine (HID.out _).mono ?_
  rintro e2 w2 ⟨rfl, rfl⟩
  go_wp2_with fail
  refine (HSS.out _).mono ?_
  rintro e3 w3 ⟨rfl, hb3⟩
  have ltB : w.heap.size + 1 < w1.heap.size := lt_of_block HX2.out
  have hx3 := (hb3.block _ (by simp; omega)).trans ((Below.heap_alloc w1 (.cells #[.int .i64 b, .int .i64 n, .int .i64 s, .int .i64 ea, .int .i64 du, .int .i64 la, .int .i64 ti, .int .i64 L', .int .i64 bu] 23) _ ltB).trans HX2.out)
  have hx4 := (hb3.block w1.heap.size (by simp)).trans (heap_alloc_new w1 (.cells #[.int .i64 b, .int .i64 n, .int .i64 s, .int .i64 ea, .int .i64 du, .int .i64 la, .int .i64 ti, .int .i64 L', .int .i64 bu] 23))
  have hx5 := (hb3.block w.heap.size (by simp; omega)).trans ((Below.heap_alloc w1 (.cells #[.int .i64 b, .int .i64 n, .int .i64 s, .int .i64 ea, .int .i64 du, .int .i64 la, .int .i64 ti, .int .i64 L', .int .i64 bu] 23) _ (by omega)).trans HX1.out)
  have lt9 := lt_of_block hx4
  have HBL := Lib.hid ((HB1.out.alloc HB1.out.size (.cells #[.int .i64 b, .int .i64 n, .int .i64 s, .int .i64 ea, .int .i64 du, .int .i64 la, .int .i64 ti, .int .i64 L', .int .i64 bu] 23)).trans (hb3.mono (by have := HB1.out.size; simp; omega)))
  clear hb3 y0 y1 y2 y3 y4 y5 y6 y7 y8 z0 z1 z2 z3 z4 z5 z6 z7 z8 g0 g1 g2 g3 g4 g5 g6 g7 g8
  obtain ⟨z0, z1, z2, z3, z4, z5, z6, z7, z8⟩ := st_nine hx3
  obtain ⟨g0, g1, g2, g3, g4, g5, g6, g7, g8⟩ := st_nofrost hx3
  obtain ⟨y0, y1, y2, y3, y4, y5, y6, y7, y8⟩ := st_nine hx4
  obtain ⟨f0, f1, f2, f3, f4, f5, f6, f7, f8⟩ := st_nofrost hx4
  obtain ⟨v0, v1, v2, v3, v4, v5, v6, v7, v8⟩ := st_nine hx5
  clear hx5
  go_upto_region 22 with fail
  obtain ⟨w4, hw4⟩ : ∃ w4, w4 = (((((((((w3.setCell ⟨w1.heap.size, 2, none⟩ (.int .i64 (S'))).setCell ⟨w1.heap.size, 3, none⟩ (.int .i64 (ea + -15))).setCell ⟨w1.heap.size, 4, none⟩ (.int .i64 (d + S'))).setCell ⟨w1.heap.size, 3, none⟩ (.int .i64 (E'))).setCell ⟨w1.heap.size, 4, none⟩ (.int .i64 (D'))).setCell ⟨w1.heap.size, 5, none⟩ (.int .i64 (d))).setCell ⟨w1.heap.size, 8, none⟩ (.int .i64 (-1))).setCell ⟨w1.heap.size, 6, none⟩ (.int .i64 (T'))).setCell ⟨w1.heap.size, 7, none⟩ (.int .i64 (L'))) := ⟨_, rfl⟩
  rw [← hw4]
  have hx6 : w4.heap[w1.heap.size]? = some (.cells #[.int .i64 b, .int .i64 n, .int .i64 S', .int .i64 E', .int .i64 D', .int .i64 d, .int .i64 T', .int .i64 L', .int .i64 (-1)] 23 (0, 0)) := by
    rw [hw4]
    have hs := (st_set7 (.int .i64 (L')) (st_set6 (.int .i64 (T')) (st_set8 (.int .i64 (-1)) (st_set5 (.int .i64 (d)) (st_set4 (.int .i64 (D')) (st_set3 (.int .i64 (E')) (st_set4 (.int .i64 (d + S')) (st_set3 (.int .i64 (ea + -15)) (st_set2 (.int .i64 (S')) hx4)))))))))
    exact hs
  have hx7 : w4.heap[w.heap.size + 1]? = some (.cells #[.int .i64 0, .int .i64 0, .int .i64 0, .int .i64 0, .int .i64 0, .int .i64 0, .int .i64 0, .int .i64 0, .int .i64 0] 23 (0, 0)) := by
    rw [hw4]
    exact ((heap_setCell_other _ _ _ _ (by simp; omega)).trans ((heap_setCell_other _ _ _ _ (by simp; omega)).trans ((heap_setCell_other _ _ _ _ (by simp; omega)).trans ((heap_setCell_other _ _ _ _ (by simp; omega)).trans ((heap_setCell_other _ _ _ _ (by simp; omega)).trans ((heap_setCell_other _ _ _ _ (by simp; omega)).trans ((heap_setCell_other _ _ _ _ (by simp; omega)).trans ((heap_setCell_other _ _ _ _ (by simp; omega)).trans ((heap_setCell_other _ _ _ _ (by simp; omega)).trans hx3)))))))))
  have HBM : Hid (Below w.heap.size w w4) := Lib.hid (by
    rw [hw4]
    exact (((((((((HBL.out.setCell (by simp; omega) _).setCell (by simp; omega) _).setCell (by simp; omega) _).setCell (by simp; omega) _).setCell (by simp; omega) _).setCell (by simp; omega) _).setCell (by simp; omega) _).setCell (by simp; omega) _).setCell (by simp; omega) _))
  clear hw4 y0 y1 y2 y3 y4 y5 y6 y7 y8 z0 z1 z2 z3 z4 z5 z6 z7 z8 g0 g1 g2 g3 g4 g5 g6 g7 g8 f0 f1 f2 f3 f4 f5 f6 f7 f8 v0 v1 v2 v3 v4 v5 v6 v7 v8
  obtain ⟨z0, z1, z2, z3, z4, z5, z6, z7, z8⟩ := st_nine hx7
  obtain ⟨g0, g1, g2, g3, g4, g5, g6, g7, g8⟩ := st_nofrost hx7
  obtain ⟨y0, y1, y2, y3, y4, y5, y6, y7, y8⟩ := st_nine hx6
  clear hx6 hx7 hx3 hx4
  go_wp2_with fail
  refine bodyPost_ret (v := .tuple #[.agg #[.int .i64 b, .int .i64 n, .int .i64 S', .int .i64 E', .int .i64 D', .int .i64 d, .int .i64 T', .int .i64 L', .int .i64 (-1)], .int .i64 0]) ?_ rfl ⟨rfl, ?_⟩
  · simp only [results, Tryd.results19]
    go_simp
  · repeat (with_reducible refine Below.setCell ?_ (by simp) _)
    exact HBM.out
set_option maxRecDepth 100000 in
set_option maxHeartbeats 8000000 in
theorem gradeOf_3 (x : StV) (d : Int) (w : World) (h : gradeE x 3 d = 0) :
    Calls Tryd.prog 19 #[x.v, .int .i64 3, .int .i64 d] w fun e w' => e = .returned (.tuple #[(gradedV x 3 d).v, .int .i64 0]) ∧ Below w.heap.size w w' := by
  have HCK := Lib.hid (fun W => stateFault_any x W)
  have HID := Lib.hid (fun W => refIsDay_p d W)
  have i0 : ∀ (a b c : Value) (w : World), (Instr.index 74 (.agg #[a, b, c]) (.int .i64 0)).run Tryd.prog w = .ok a w := fun _ _ _ _ => by kernel_rfl
  have i1 : ∀ (a b c : Value) (w : World), (Instr.index 74 (.agg #[a, b, c]) (.int .i64 1)).run Tryd.prog w = .ok b w := fun _ _ _ _ => by kernel_rfl
  have i2 : ∀ (a b c : Value) (w : World), (Instr.index 74 (.agg #[a, b, c]) (.int .i64 2)).run Tryd.prog w = .ok c w := fun _ _ _ _ => by kernel_rfl
  obtain ⟨h1, -, -, hd0, hd1, hlt⟩ := gradeE_ok h
  have HSS := Lib.hid (fun W => steps_any x d W (stE_ok h1).1 hlt hd1)
  have hst := step_bd (d := d) (stE_ok h1).1
  have hr := (stE_ok h1).1
  unfold inRng at hr
  rw [h1] at HCK
  rw [pFrom_true ⟨hd0, hd1⟩] at HID
  obtain ⟨q1, q2, q3, q4, q5⟩ := gradedV_eqs x 3 d
  rw [gradedV_v]
  have a1 : stepOf x 3 d = goodOf x d := by unfold stepOf; simp
  have a2 : easeBy 3 = 0 := by unfold easeBy; simp
  rw [a1] at q1 q3
  rw [a2] at q2
  generalize (gradedV x 3 d).st = S' at *
  generalize (gradedV x 3 d).ea = E' at *
  generalize (gradedV x 3 d).du = D' at *
  generalize (gradedV x 3 d).ti = T' at *
  generalize (gradedV x 3 d).lp = L' at *
  generalize hardOf x d = hd at *
  generalize goodOf x d = gd at *
  generalize easyOf x d = es at *
  obtain ⟨k1, k2, k3, k4, k5, k6⟩ := hst
  have hs0 : 0 ≤ x.st := hr.2.2.1.1
  have hs1 : x.st ≤ 3650 := hr.2.2.1.2
  have he0 : 130 ≤ x.ea := hr.2.2.2.1.1
  have he1 : x.ea ≤ 400 := hr.2.2.2.1.2
  have hti0 : 0 ≤ x.ti := hr.2.2.2.2.2.2.1.1
  have hti1 : x.ti ≤ 20000 := hr.2.2.2.2.2.2.1.2
  have hlp0 : 0 ≤ x.lp := hr.2.2.2.2.2.2.2.1.1
  have hlp1 : x.lp ≤ 20000 := hr.2.2.2.2.2.2.2.1.2
  have hlt2 : ¬ d < x.la := by omega
  clear hr h h1 a1 a2 hlt
  obtain ⟨b, n, s, ea, du, la, ti, lp, bu⟩ := x
  unfold StV.v StV.cells at *
  dsimp only at *
  rw [if_neg (by simp)] at q5
  have c1 : 1 ≤ S' ∧ S' ≤ 3650 := by omega
  obtain ⟨c1, c2⟩ := c1
  have r1 : (if 3650 < gd then (3650 : Int) else gd) = S' := by split <;> omega
  obtain rfl : E' = ea := by omega
  have r5 : (if 100000 < d + S' then (100000 : Int) else d + S') = D' := by split <;> omega
  have r6 : (if 20000 < ti + 1 then (20000 : Int) else ti + 1) = T' := by split <;> omega
  subst q5
  clear q1 q2 q3 q4
  have hb0 := ((Below.refl w.heap.size w).alloc (Nat.le_refl _) (.cells #[.int .i64 b, .int .i64 n, .int .i64 s, .int .i64 E', .int .i64 du, .int .i64 la, .int .i64 ti, .int .i64 L', .int .i64 bu] 23)).alloc (by simp) (.cells #[.int .i64 0, .int .i64 0, .int .i64 0, .int .i64 0, .int .i64 0, .int .i64 0, .int .i64 0, .int .i64 0, .int .i64 0] 23)
  go_enter Tryd.func19, Tryd.ntmps19
  go_wp2_with fail
  refine (HCK.out _).mono ?_
  rintro e1 w1 ⟨rfl, hb1⟩
  have HB1 := Lib.hid (hb0.trans (hb1.mono (by simp; omega)))
  have hx1 : w1.heap[w.heap.size]? = some (.cells #[.int .i64 b, .int .i64 n, .int .i64 s, .int .i64 E', .int .i64 du, .int .i64 la, .int .i64 ti, .int .i64 L', .int .i64 bu] 23 (0, 0)) := (hb1.block _ (by simp; omega)).trans ((Below.heap_alloc _ _ _ (by simp)).trans (heap_alloc_new w _))
  have hx2 : w1.heap[w.heap.size + 1]? = some (.cells #[.int .i64 0, .int .i64 0, .int .i64 0, .int .i64 0, .int .i64 0, .int .i64 0, .int .i64 0, .int .i64 0, .int .i64 0] 23 (0, 0)) := (hb1.block _ (by simp)).trans (by have := heap_alloc_new (w.alloc (.cells #[.int .i64 b, .int .i64 n, .int .i64 s, .int .i64 E', .int .i64 du, .int .i64 la, .int .i64 ti, .int .i64 L', .int .i64 bu] 23)) (.cells #[.int .i64 0, .int .i64 0, .int .i64 0, .int .i64 0, .int .i64 0, .int .i64 0, .int .i64 0, .int .i64 0, .int .i64 0] 23); simpa using this)
  have HX2 := Lib.hid hx2
  have HX1 := Lib.hid hx1
  have lt1 := lt_of_block hx2
  have lt0 : w.heap.size < w1.heap.size := by omega
  clear hb0 hb1
  obtain ⟨y0, y1, y2, y3, y4, y5, y6, y7, y8⟩ := st_nine hx1
  obtain ⟨z0, z1, z2, z3, z4, z5, z6, z7, z8⟩ := st_nine hx2
  obtain ⟨g0, g1, g2, g3, g4, g5, g6, g7, g8⟩ := st_nofrost hx2
  clear hx1 hx2
  go_wp2_with fail
  refine (HID.out _).mono ?_
  rintro e2 w2 ⟨rfl, rfl⟩
  go_wp2_with fail
  refine (HSS.out _).mono ?_
  rintro e3 w3 ⟨rfl, hb3⟩
  have ltB : w.heap.size + 1 < w1.heap.size := lt_of_block HX2.out
  have hx3 := (hb3.block _ (by simp; omega)).trans ((Below.heap_alloc w1 (.cells #[.int .i64 b, .int .i64 n, .int .i64 s, .int .i64 E', .int .i64 du, .int .i64 la, .int .i64 ti, .int .i64 L', .int .i64 bu] 23) _ ltB).trans HX2.out)
  have hx4 := (hb3.block w1.heap.size (by simp)).trans (heap_alloc_new w1 (.cells #[.int .i64 b, .int .i64 n, .int .i64 s, .int .i64 E', .int .i64 du, .int .i64 la, .int .i64 ti, .int .i64 L', .int .i64 bu] 23))
  have hx5 := (hb3.block w.heap.size (by simp; omega)).trans ((Below.heap_alloc w1 (.cells #[.int .i64 b, .int .i64 n, .int .i64 s, .int .i64 E', .int .i64 du, .int .i64 la, .int .i64 ti, .int .i64 L', .int .i64 bu] 23) _ (by omega)).trans HX1.out)
  have lt9 := lt_of_block hx4
  have HBL := Lib.hid ((HB1.out.alloc HB1.out.size (.cells #[.int .i64 b, .int .i64 n, .int .i64 s, .int .i64 E', .int .i64 du, .int .i64 la, .int .i64 ti, .int .i64 L', .int .i64 bu] 23)).trans (hb3.mono (by have := HB1.out.size; simp; omega)))
  clear hb3 y0 y1 y2 y3 y4 y5 y6 y7 y8 z0 z1 z2 z3 z4 z5 z6 z7 z8 g0 g1 g2 g3 g4 g5 g6 g7 g8
  obtain ⟨z0, z1, z2, z3, z4, z5, z6, z7, z8⟩ := st_nine hx3
  obtain ⟨g0, g1, g2, g3, g4, g5, g6, g7, g8⟩ := st_nofrost hx3
  obtain ⟨y0, y1, y2, y3, y4, y5, y6, y7, y8⟩ := st_nine hx4
  obtain ⟨f0, f1, f2, f3, f4, f5, f6, f7, f8⟩ := st_nofrost hx4
  obtain ⟨v0, v1, v2, v3, v4, v5, v6, v7, v8⟩ := st_nine hx5
  clear hx5
  go_upto_region 22 with fail
  obtain ⟨w4, hw4⟩ : ∃ w4, w4 = (((((((((w3.setCell ⟨w1.heap.size, 2, none⟩ (.int .i64 (S'))).setCell ⟨w1.heap.size, 3, none⟩ (.int .i64 (E'))).setCell ⟨w1.heap.size, 4, none⟩ (.int .i64 (d + S'))).setCell ⟨w1.heap.size, 3, none⟩ (.int .i64 (E'))).setCell ⟨w1.heap.size, 4, none⟩ (.int .i64 (D'))).setCell ⟨w1.heap.size, 5, none⟩ (.int .i64 (d))).setCell ⟨w1.heap.size, 8, none⟩ (.int .i64 (-1))).setCell ⟨w1.heap.size, 6, none⟩ (.int .i64 (T'))).setCell ⟨w1.heap.size, 7, none⟩ (.int .i64 (L'))) := ⟨_, rfl⟩
  rw [← hw4]
  have hx6 : w4.heap[w1.heap.size]? = some (.cells #[.int .i64 b, .int .i64 n, .int .i64 S', .int .i64 E', .int .i64 D', .int .i64 d, .int .i64 T', .int .i64 L', .int .i64 (-1)] 23 (0, 0)) := by
    rw [hw4]
    have hs := (st_set7 (.int .i64 (L')) (st_set6 (.int .i64 (T')) (st_set8 (.int .i64 (-1)) (st_set5 (.int .i64 (d)) (st_set4 (.int .i64 (D')) (st_set3 (.int .i64 (E')) (st_set4 (.int .i64 (d + S')) (st_set3 (.int .i64 (E')) (st_set2 (.int .i64 (S')) hx4)))))))))
    exact hs
  have hx7 : w4.heap[w.heap.size + 1]? = some (.cells #[.int .i64 0, .int .i64 0, .int .i64 0, .int .i64 0, .int .i64 0, .int .i64 0, .int .i64 0, .int .i64 0, .int .i64 0] 23 (0, 0)) := by
    rw [hw4]
    exact ((heap_setCell_other _ _ _ _ (by simp; omega)).trans ((heap_setCell_other _ _ _ _ (by simp; omega)).trans ((heap_setCell_other _ _ _ _ (by simp; omega)).trans ((heap_setCell_other _ _ _ _ (by simp; omega)).trans ((heap_setCell_other _ _ _ _ (by simp; omega)).trans ((heap_setCell_other _ _ _ _ (by simp; omega)).trans ((heap_setCell_other _ _ _ _ (by simp; omega)).trans ((heap_setCell_other _ _ _ _ (by simp; omega)).trans ((heap_setCell_other _ _ _ _ (by simp; omega)).trans hx3)))))))))
  have HBM : Hid (Below w.heap.size w w4) := Lib.hid (by
    rw [hw4]
    exact (((((((((HBL.out.setCell (by simp; omega) _).setCell (by simp; omega) _).setCell (by simp; omega) _).setCell (by simp; omega) _).setCell (by simp; omega) _).setCell (by simp; omega) _).setCell (by simp; omega) _).setCell (by simp; omega) _).setCell (by simp; omega) _))
  clear hw4 y0 y1 y2 y3 y4 y5 y6 y7 y8 z0 z1 z2 z3 z4 z5 z6 z7 z8 g0 g1 g2 g3 g4 g5 g6 g7 g8 f0 f1 f2 f3 f4 f5 f6 f7 f8 v0 v1 v2 v3 v4 v5 v6 v7 v8
  obtain ⟨z0, z1, z2, z3, z4, z5, z6, z7, z8⟩ := st_nine hx7
  obtain ⟨g0, g1, g2, g3, g4, g5, g6, g7, g8⟩ := st_nofrost hx7
  obtain ⟨y0, y1, y2, y3, y4, y5, y6, y7, y8⟩ := st_nine hx6
  clear hx6 hx7 hx3 hx4
  go_wp2_with fail
  refine bodyPost_ret (v := .tuple #[.agg #[.int .i64 b, .int .i64 n, .int .i64 S', .int .i64 E', .int .i64 D', .int .i64 d, .int .i64 T', .int .i64 L', .int .i64 (-1)], .int .i64 0]) ?_ rfl ⟨rfl, ?_⟩
  · simp only [results, Tryd.results19]
    go_simp
  · repeat (with_reducible refine Below.setCell ?_ (by simp) _)
    exact HBM.out
set_option maxRecDepth 100000 in
set_option maxHeartbeats 8000000 in
theorem gradeOf_4 (x : StV) (d : Int) (w : World) (h : gradeE x 4 d = 0) :
    Calls Tryd.prog 19 #[x.v, .int .i64 4, .int .i64 d] w fun e w' => e = .returned (.tuple #[(gradedV x 4 d).v, .int .i64 0]) ∧ Below w.heap.size w w' := by
  have HCK := Lib.hid (fun W => stateFault_any x W)
  have HID := Lib.hid (fun W => refIsDay_p d W)
  have i0 : ∀ (a b c : Value) (w : World), (Instr.index 74 (.agg #[a, b, c]) (.int .i64 0)).run Tryd.prog w = .ok a w := fun _ _ _ _ => by kernel_rfl
  have i1 : ∀ (a b c : Value) (w : World), (Instr.index 74 (.agg #[a, b, c]) (.int .i64 1)).run Tryd.prog w = .ok b w := fun _ _ _ _ => by kernel_rfl
  have i2 : ∀ (a b c : Value) (w : World), (Instr.index 74 (.agg #[a, b, c]) (.int .i64 2)).run Tryd.prog w = .ok c w := fun _ _ _ _ => by kernel_rfl
  obtain ⟨h1, -, -, hd0, hd1, hlt⟩ := gradeE_ok h
  have HSS := Lib.hid (fun W => steps_any x d W (stE_ok h1).1 hlt hd1)
  have hst := step_bd (d := d) (stE_ok h1).1
  have hr := (stE_ok h1).1
  unfold inRng at hr
  rw [h1] at HCK
  rw [pFrom_true ⟨hd0, hd1⟩] at HID
  obtain ⟨q1, q2, q3, q4, q5⟩ := gradedV_eqs x 4 d
  rw [gradedV_v]
  have a1 : stepOf x 4 d = easyOf x d := by unfold stepOf; simp
  have a2 : easeBy 4 = 15 := by unfold easeBy; simp
  rw [a1] at q1 q3
  rw [a2] at q2
  generalize (gradedV x 4 d).st = S' at *
  generalize (gradedV x 4 d).ea = E' at *
  generalize (gradedV x 4 d).du = D' at *
  generalize (gradedV x 4 d).ti = T' at *
  generalize (gradedV x 4 d).lp = L' at *
  generalize hardOf x d = hd at *
  generalize goodOf x d = gd at *
  generalize easyOf x d = es at *
  obtain ⟨k1, k2, k3, k4, k5, k6⟩ := hst
  have hs0 : 0 ≤ x.st := hr.2.2.1.1
  have hs1 : x.st ≤ 3650 := hr.2.2.1.2
  have he0 : 130 ≤ x.ea := hr.2.2.2.1.1
  have he1 : x.ea ≤ 400 := hr.2.2.2.1.2
  have hti0 : 0 ≤ x.ti := hr.2.2.2.2.2.2.1.1
  have hti1 : x.ti ≤ 20000 := hr.2.2.2.2.2.2.1.2
  have hlp0 : 0 ≤ x.lp := hr.2.2.2.2.2.2.2.1.1
  have hlp1 : x.lp ≤ 20000 := hr.2.2.2.2.2.2.2.1.2
  have hlt2 : ¬ d < x.la := by omega
  clear hr h h1 a1 a2 hlt
  obtain ⟨b, n, s, ea, du, la, ti, lp, bu⟩ := x
  unfold StV.v StV.cells at *
  dsimp only at *
  rw [if_neg (by simp)] at q5
  have c1 : 1 ≤ S' ∧ S' ≤ 3650 := by omega
  obtain ⟨c1, c2⟩ := c1
  have r1 : (if 3650 < es then (3650 : Int) else es) = S' := by split <;> omega
  have r3 : (if 400 < ea + 15 then (400 : Int) else ea + 15) = E' := by split <;> omega
  have r5 : (if 100000 < d + S' then (100000 : Int) else d + S') = D' := by split <;> omega
  have r6 : (if 20000 < ti + 1 then (20000 : Int) else ti + 1) = T' := by split <;> omega
  subst q5
  clear q1 q2 q3 q4
  have hb0 := ((Below.refl w.heap.size w).alloc (Nat.le_refl _) (.cells #[.int .i64 b, .int .i64 n, .int .i64 s, .int .i64 ea, .int .i64 du, .int .i64 la, .int .i64 ti, .int .i64 L', .int .i64 bu] 23)).alloc (by simp) (.cells #[.int .i64 0, .int .i64 0, .int .i64 0, .int .i64 0, .int .i64 0, .int .i64 0, .int .i64 0, .int .i64 0, .int .i64 0] 23)
  go_enter Tryd.func19, Tryd.ntmps19
  go_wp2_with fail
  refine (HCK.out _).mono ?_
  rintro e1 w1 ⟨rfl, hb1⟩
  have HB1 := Lib.hid (hb0.trans (hb1.mono (by simp; omega)))
  have hx1 : w1.heap[w.heap.size]? = some (.cells #[.int .i64 b, .int .i64 n, .int .i64 s, .int .i64 ea, .int .i64 du, .int .i64 la, .int .i64 ti, .int .i64 L', .int .i64 bu] 23 (0, 0)) := (hb1.block _ (by simp; omega)).trans ((Below.heap_alloc _ _ _ (by simp)).trans (heap_alloc_new w _))
  have hx2 : w1.heap[w.heap.size + 1]? = some (.cells #[.int .i64 0, .int .i64 0, .int .i64 0, .int .i64 0, .int .i64 0, .int .i64 0, .int .i64 0, .int .i64 0, .int .i64 0] 23 (0, 0)) := (hb1.block _ (by simp)).trans (by have := heap_alloc_new (w.alloc (.cells #[.int .i64 b, .int .i64 n, .int .i64 s, .int .i64 ea, .int .i64 du, .int .i64 la, .int .i64 ti, .int .i64 L', .int .i64 bu] 23)) (.cells #[.int .i64 0, .int .i64 0, .int .i64 0, .int .i64 0, .int .i64 0, .int .i64 0, .int .i64 0, .int .i64 0, .int .i64 0] 23); simpa using this)
  have HX2 := Lib.hid hx2
  have HX1 := Lib.hid hx1
  have lt1 := lt_of_block hx2
  have lt0 : w.heap.size < w1.heap.size := by omega
  clear hb0 hb1
  obtain ⟨y0, y1, y2, y3, y4, y5, y6, y7, y8⟩ := st_nine hx1
  obtain ⟨z0, z1, z2, z3, z4, z5, z6, z7, z8⟩ := st_nine hx2
  obtain ⟨g0, g1, g2, g3, g4, g5, g6, g7, g8⟩ := st_nofrost hx2
  clear hx1 hx2
  go_wp2_with fail
  refine (HID.out _).mono ?_
  rintro e2 w2 ⟨rfl, rfl⟩
  go_wp2_with fail
  refine (HSS.out _).mono ?_
  rintro e3 w3 ⟨rfl, hb3⟩
  have ltB : w.heap.size + 1 < w1.heap.size := lt_of_block HX2.out
  have hx3 := (hb3.block _ (by simp; omega)).trans ((Below.heap_alloc w1 (.cells #[.int .i64 b, .int .i64 n, .int .i64 s, .int .i64 ea, .int .i64 du, .int .i64 la, .int .i64 ti, .int .i64 L', .int .i64 bu] 23) _ ltB).trans HX2.out)
  have hx4 := (hb3.block w1.heap.size (by simp)).trans (heap_alloc_new w1 (.cells #[.int .i64 b, .int .i64 n, .int .i64 s, .int .i64 ea, .int .i64 du, .int .i64 la, .int .i64 ti, .int .i64 L', .int .i64 bu] 23))
  have hx5 := (hb3.block w.heap.size (by simp; omega)).trans ((Below.heap_alloc w1 (.cells #[.int .i64 b, .int .i64 n, .int .i64 s, .int .i64 ea, .int .i64 du, .int .i64 la, .int .i64 ti, .int .i64 L', .int .i64 bu] 23) _ (by omega)).trans HX1.out)
  have lt9 := lt_of_block hx4
  have HBL := Lib.hid ((HB1.out.alloc HB1.out.size (.cells #[.int .i64 b, .int .i64 n, .int .i64 s, .int .i64 ea, .int .i64 du, .int .i64 la, .int .i64 ti, .int .i64 L', .int .i64 bu] 23)).trans (hb3.mono (by have := HB1.out.size; simp; omega)))
  clear hb3 y0 y1 y2 y3 y4 y5 y6 y7 y8 z0 z1 z2 z3 z4 z5 z6 z7 z8 g0 g1 g2 g3 g4 g5 g6 g7 g8
  obtain ⟨z0, z1, z2, z3, z4, z5, z6, z7, z8⟩ := st_nine hx3
  obtain ⟨g0, g1, g2, g3, g4, g5, g6, g7, g8⟩ := st_nofrost hx3
  obtain ⟨y0, y1, y2, y3, y4, y5, y6, y7, y8⟩ := st_nine hx4
  obtain ⟨f0, f1, f2, f3, f4, f5, f6, f7, f8⟩ := st_nofrost hx4
  obtain ⟨v0, v1, v2, v3, v4, v5, v6, v7, v8⟩ := st_nine hx5
  clear hx5
  go_upto_region 22 with fail
  obtain ⟨w4, hw4⟩ : ∃ w4, w4 = (((((((((w3.setCell ⟨w1.heap.size, 2, none⟩ (.int .i64 (S'))).setCell ⟨w1.heap.size, 3, none⟩ (.int .i64 (ea + 15))).setCell ⟨w1.heap.size, 4, none⟩ (.int .i64 (d + S'))).setCell ⟨w1.heap.size, 3, none⟩ (.int .i64 (E'))).setCell ⟨w1.heap.size, 4, none⟩ (.int .i64 (D'))).setCell ⟨w1.heap.size, 5, none⟩ (.int .i64 (d))).setCell ⟨w1.heap.size, 8, none⟩ (.int .i64 (-1))).setCell ⟨w1.heap.size, 6, none⟩ (.int .i64 (T'))).setCell ⟨w1.heap.size, 7, none⟩ (.int .i64 (L'))) := ⟨_, rfl⟩
  rw [← hw4]
  have hx6 : w4.heap[w1.heap.size]? = some (.cells #[.int .i64 b, .int .i64 n, .int .i64 S', .int .i64 E', .int .i64 D', .int .i64 d, .int .i64 T', .int .i64 L', .int .i64 (-1)] 23 (0, 0)) := by
    rw [hw4]
    have hs := (st_set7 (.int .i64 (L')) (st_set6 (.int .i64 (T')) (st_set8 (.int .i64 (-1)) (st_set5 (.int .i64 (d)) (st_set4 (.int .i64 (D')) (st_set3 (.int .i64 (E')) (st_set4 (.int .i64 (d + S')) (st_set3 (.int .i64 (ea + 15)) (st_set2 (.int .i64 (S')) hx4)))))))))
    exact hs
  have hx7 : w4.heap[w.heap.size + 1]? = some (.cells #[.int .i64 0, .int .i64 0, .int .i64 0, .int .i64 0, .int .i64 0, .int .i64 0, .int .i64 0, .int .i64 0, .int .i64 0] 23 (0, 0)) := by
    rw [hw4]
    exact ((heap_setCell_other _ _ _ _ (by simp; omega)).trans ((heap_setCell_other _ _ _ _ (by simp; omega)).trans ((heap_setCell_other _ _ _ _ (by simp; omega)).trans ((heap_setCell_other _ _ _ _ (by simp; omega)).trans ((heap_setCell_other _ _ _ _ (by simp; omega)).trans ((heap_setCell_other _ _ _ _ (by simp; omega)).trans ((heap_setCell_other _ _ _ _ (by simp; omega)).trans ((heap_setCell_other _ _ _ _ (by simp; omega)).trans ((heap_setCell_other _ _ _ _ (by simp; omega)).trans hx3)))))))))
  have HBM : Hid (Below w.heap.size w w4) := Lib.hid (by
    rw [hw4]
    exact (((((((((HBL.out.setCell (by simp; omega) _).setCell (by simp; omega) _).setCell (by simp; omega) _).setCell (by simp; omega) _).setCell (by simp; omega) _).setCell (by simp; omega) _).setCell (by simp; omega) _).setCell (by simp; omega) _).setCell (by simp; omega) _))
  clear hw4 y0 y1 y2 y3 y4 y5 y6 y7 y8 z0 z1 z2 z3 z4 z5 z6 z7 z8 g0 g1 g2 g3 g4 g5 g6 g7 g8 f0 f1 f2 f3 f4 f5 f6 f7 f8 v0 v1 v2 v3 v4 v5 v6 v7 v8
  obtain ⟨z0, z1, z2, z3, z4, z5, z6, z7, z8⟩ := st_nine hx7
  obtain ⟨g0, g1, g2, g3, g4, g5, g6, g7, g8⟩ := st_nofrost hx7
  obtain ⟨y0, y1, y2, y3, y4, y5, y6, y7, y8⟩ := st_nine hx6
  clear hx6 hx7 hx3 hx4
  go_wp2_with fail
  refine bodyPost_ret (v := .tuple #[.agg #[.int .i64 b, .int .i64 n, .int .i64 S', .int .i64 E', .int .i64 D', .int .i64 d, .int .i64 T', .int .i64 L', .int .i64 (-1)], .int .i64 0]) ?_ rfl ⟨rfl, ?_⟩
  · simp only [results, Tryd.results19]
    go_simp
  · repeat (with_reducible refine Below.setCell ?_ (by simp) _)
    exact HBM.out
theorem gradeOf_any (x : StV) (g d : Int) (w : World) :
    Calls Tryd.prog 19 #[x.v, .int .i64 g, .int .i64 d] w fun e w' => e = .returned (.tuple #[(gradeV x g d).v, .int .i64 (gradeE x g d)]) ∧ Below w.heap.size w w' := by
  by_cases h : gradeE x g d = 0
  · rw [gradeV_good h, h]
    obtain ⟨hs, g1, g4, -⟩ := gradeE_ok h
    rcases (by omega : g = 1 ∨ g = 2 ∨ g = 3 ∨ g = 4) with rfl | rfl | rfl | rfl
    · by_cases h0 : 0 < x.st
      · exact gradeOf_1s x d w h h0
      · exact gradeOf_1z x d w h (by have := (stE_ok hs).1.2.2.1.1; omega)
    · exact gradeOf_2 x d w h
    · exact gradeOf_3 x d w h
    · exact gradeOf_4 x d w h
  · rw [gradeV_bad h]
    exact gradeOf_bad x g d w h
end Go.Proofs.YtnellkdiafglgaaDoor
