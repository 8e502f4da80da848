/- Cards: graded of the program. -/
import Derived.Test.YtnellkdiafglgaaDoorCdG
namespace Go.Proofs.YtnellkdiafglgaaDoor
open Go.RowKit Go.Shelf

theorem st_nofrost {w : World} {k : Nat} {cs : Array Value} {t : TypeId} (h : w.heap[k]? = some (.cells cs t (0, 0))) :
    w.frozen? ⟨k, 0, none⟩ = false ∧ w.frozen? ⟨k, 1, none⟩ = false ∧ w.frozen? ⟨k, 2, none⟩ = false ∧ w.frozen? ⟨k, 3, none⟩ = false ∧ w.frozen? ⟨k, 4, none⟩ = false ∧ w.frozen? ⟨k, 5, none⟩ = false ∧ w.frozen? ⟨k, 6, none⟩ = false ∧ w.frozen? ⟨k, 7, none⟩ = false ∧ w.frozen? ⟨k, 8, none⟩ = false :=
  ⟨frozen_of_row w k 0 _ _ h, frozen_of_row w k 1 _ _ h, frozen_of_row w k 2 _ _ h, frozen_of_row w k 3 _ _ h, frozen_of_row w k 4 _ _ h, frozen_of_row w k 5 _ _ h, frozen_of_row w k 6 _ _ h, frozen_of_row w k 7 _ _ h, frozen_of_row w k 8 _ _ h⟩
theorem step_bd {x : StV} {d : Int} (h : inRng x) : 1 ≤ hardOf x d ∧ hardOf x d ≤ 4416 ∧ 1 ≤ goodOf x d ∧ goodOf x d ≤ 14720 ∧ 1 ≤ easyOf x d ∧ easyOf x d ≤ 19136 := by
  obtain ⟨t1, t2, -⟩ := tOf_bd (d := d) h
  have hh := hard_bd (d := d) h
  have hr := h
  unfold inRng at hr
  have m1 := mul_bd (a := x.ea) (b := tOf x d) (m := 400) (n := 3680) (by omega) (by omega) (by omega) (by omega)
  have m2 := mul_bd (a := 13 * x.ea) (b := tOf x d) (m := 5200) (n := 3680) (by omega) (by omega) (by omega) (by omega)
  have hg : 1 ≤ goodOf x d ∧ goodOf x d ≤ 14720 := by
    unfold goodOf
    split
    · omega
    · omega
  have he : 1 ≤ easyOf x d ∧ easyOf x d ≤ 19136 := by
    unfold easyOf
    split
    · omega
    · omega
  omega
theorem gradedV_v (x : StV) (g d : Int) : (gradedV x g d).v = .agg #[.int .i64 x.bl, .int .i64 x.no, .int .i64 (gradedV x g d).st, .int .i64 (gradedV x g d).ea, .int .i64 (gradedV x g d).du, .int .i64 d, .int .i64 (gradedV x g d).ti, .int .i64 (gradedV x g d).lp, .int .i64 (-1)] := rfl
theorem gradedV_eqs (x : StV) (g d : Int) : (gradedV x g d).st = min (stepOf x g d) 3650 ∧ (gradedV x g d).ea = min (max (x.ea + easeBy g) 130) 400 ∧ (gradedV x g d).du = min (d + max (min (stepOf x g d) 3650) 1) 100000 ∧ (gradedV x g d).ti = min (x.ti + 1) 20000 ∧ (gradedV x g d).lp = (if g = 1 ∧ 0 < x.st then min (x.lp + 1) 20000 else x.lp) := ⟨rfl, rfl, rfl, rfl, rfl⟩
set_option maxRecDepth 100000 in
set_option maxHeartbeats 8000000 in
theorem graded_1s (x : StV) (d : Int) (w : World) (ht : TabG w) (h : inRng x) (h1 : x.la ≤ d) (h0 : 0 ≤ d) (h2 : d ≤ 100000) (hs : 0 < x.st) :
    Calls Tryd.prog 48 #[x.v, .int .i64 1, .int .i64 d] w fun e w' => e = .returned (gradedV x 1 d).v ∧ Below w.heap.size w w' := by
  have HS := Lib.hid (fun W hW => stepsOn_any x d W hW h h1 h2)
  have hst := step_bd (d := d) h
  have hr := h
  unfold inRng at hr
  obtain ⟨q1, q2, q3, q4, q5⟩ := gradedV_eqs x 1 d
  rw [gradedV_v]
  have a1 : stepOf x 1 d = 0 := by unfold stepOf; simp
  have a2 : easeBy 1 = -20 := by unfold easeBy; simp
  rw [a1] at q1 q3
  rw [a2] at q2
  generalize (gradedV x 1 d).st = S' at *
  generalize (gradedV x 1 d).ea = E' at *
  generalize (gradedV x 1 d).du = D' at *
  generalize (gradedV x 1 d).ti = T' at *
  generalize (gradedV x 1 d).lp = L' at *
  generalize hardOf x d = hd at *
  generalize goodOf x d = gd at *
  generalize easyOf x d = es at *
  obtain ⟨k1, k2, k3, k4, k5, k6⟩ := hst
  have hs0 : 0 ≤ x.st := hr.2.2.1.1
  have hs1 : x.st ≤ 3650 := hr.2.2.1.2
  have he0 : 130 ≤ x.ea := hr.2.2.2.1.1
  have he1 : x.ea ≤ 400 := hr.2.2.2.1.2
  have hti0 : 0 ≤ x.ti := hr.2.2.2.2.2.2.1.1
  have hti1 : x.ti ≤ 20000 := hr.2.2.2.2.2.2.1.2
  have hlp0 : 0 ≤ x.lp := hr.2.2.2.2.2.2.2.1.1
  have hlp1 : x.lp ≤ 20000 := hr.2.2.2.2.2.2.2.1.2
  clear hr h a1 a2 h1
  obtain ⟨b, n, s, ea, du, la, ti, lp, bu⟩ := x
  unfold StV.v StV.cells at *
  dsimp only at *
  rw [if_pos ⟨rfl, hs⟩] at q5
  have c1 : 0 ≤ S' ∧ S' ≤ 3650 := by omega
  obtain ⟨c1, c2⟩ := c1
  obtain rfl : S' = 0 := by omega
  have r2 : (if ea + (-20) < 130 then (130 : Int) else ea + (-20)) = E' := by split <;> omega
  have e1 : E' ≤ 400 := by omega
  have r5 : (if 100000 < d + 1 then (100000 : Int) else d + 1) = D' := by split <;> omega
  have r6 : (if 20000 < ti + 1 then (20000 : Int) else ti + 1) = T' := by split <;> omega
  have r7 : (if 20000 < lp + 1 then (20000 : Int) else lp + 1) = L' := by split <;> omega
  have HT := Lib.hid ht
  clear q1 q2 q3 q4 ht
  skip
  clear q5
  go_enter Tryd.func48, Tryd.ntmps48
  go_wp2_with fail
  have hb0 := ((Below.refl w.heap.size w).alloc (Nat.le_refl _) (.cells #[.int .i64 b, .int .i64 n, .int .i64 s, .int .i64 ea, .int .i64 du, .int .i64 la, .int .i64 ti, .int .i64 lp, .int .i64 bu] 23)).alloc (by simp) (.cells #[.int .i64 0, .int .i64 0, .int .i64 0, .int .i64 0, .int .i64 0, .int .i64 0, .int .i64 0, .int .i64 0, .int .i64 0] 23)
  refine (HS.out _ (HT.out.below hb0)).mono ?_
  rintro e1 w1 ⟨rfl, hb1⟩
  have HB1 := Lib.hid (hb0.trans (hb1.mono (by simp; omega)))
  have hx1 : w1.heap[w.heap.size]? = some (.cells #[.int .i64 b, .int .i64 n, .int .i64 s, .int .i64 ea, .int .i64 du, .int .i64 la, .int .i64 ti, .int .i64 lp, .int .i64 bu] 23 (0, 0)) := (hb1.block _ (by simp; omega)).trans ((Below.heap_alloc _ _ _ (by simp)).trans (heap_alloc_new w _))
  have hx2 : w1.heap[w.heap.size + 1]? = some (.cells #[.int .i64 0, .int .i64 0, .int .i64 0, .int .i64 0, .int .i64 0, .int .i64 0, .int .i64 0, .int .i64 0, .int .i64 0] 23 (0, 0)) := (hb1.block _ (by simp)).trans (by have := heap_alloc_new (w.alloc (.cells #[.int .i64 b, .int .i64 n, .int .i64 s, .int .i64 ea, .int .i64 du, .int .i64 la, .int .i64 ti, .int .i64 lp, .int .i64 bu] 23)) (.cells #[.int .i64 0, .int .i64 0, .int .i64 0, .int .i64 0, .int .i64 0, .int .i64 0, .int .i64 0, .int .i64 0, .int .i64 0] 23); simpa using this)
  have lt1 := lt_of_block hx2
  have lt0 : w.heap.size < w1.heap.size := by omega
  have HT1 := HT.out.below HB1.out
  have ltea := World.block_lt_of_cell? w _ (HT.out.ea 1 (by omega))
  have hea := HT1.ea 1 (by omega)
  simp only [easeT, List.getD_cons_zero, List.getD_cons_succ] at hea
  have HEA := Lib.hid hea
  have LTEA := Lib.hid ltea
  have HX1 := Lib.hid hx1
  have HX2 := Lib.hid hx2
  obtain ⟨y0, y1, y2, y3, y4, y5, y6, y7, y8⟩ := st_nine hx1
  have f2 := frozen_of_row w1 w.heap.size 2 _ _ hx1
  have f7 := frozen_of_row w1 w.heap.size 7 _ _ hx1
  clear hb0 hb1 hx1 hx2 hea ltea HT1
  go_wp2_with fail
  skip
  obtain ⟨w2, hw2⟩ : ∃ w2, w2 = (((w1.setCell ⟨w.heap.size, 7, none⟩ (.int .i64 L')).setCell ⟨w.heap.size, 2, none⟩ (.int .i64 0)).alloc (.cells #[.int .i64 0, .int .i64 0, .int .i64 hd, .int .i64 gd, .int .i64 es] 95)) := ⟨_, rfl⟩
  rw [← hw2]
  have hx1 : w2.heap[w.heap.size]? = some (.cells #[.int .i64 b, .int .i64 n, .int .i64 0, .int .i64 ea, .int .i64 du, .int .i64 la, .int .i64 ti, .int .i64 L', .int .i64 bu] 23 (0, 0)) := by
    rw [hw2]
    exact (Below.heap_alloc _ _ _ (by simp; omega)).trans (heap_setCell_same _ _ 2 _ _ _ (heap_setCell_same _ _ 7 _ _ _ HX1.out))
  have hx2 : w2.heap[w.heap.size + 1]? = some (.cells #[.int .i64 0, .int .i64 0, .int .i64 0, .int .i64 0, .int .i64 0, .int .i64 0, .int .i64 0, .int .i64 0, .int .i64 0] 23 (0, 0)) := by
    rw [hw2]
    exact (Below.heap_alloc _ _ _ (by simp; omega)).trans ((heap_setCell_other _ _ _ _ (by simp)).trans ((heap_setCell_other _ _ _ _ (by simp)).trans HX2.out))
  have hea : w2.cell? ⟨0, 1, none⟩ = some (.int .i64 (-20)) := by
    rw [← HEA.out, hw2]
    exact World.cell?_of_block (w := w1) ((Below.heap_alloc _ _ _ (by have := LTEA.out; simp; omega)).trans ((heap_setCell_other _ _ _ _ (by have := LTEA.out; simp; omega)).trans (heap_setCell_other _ _ _ _ (by have := LTEA.out; simp; omega))))
  have HB2 : Hid (Below w.heap.size w w2) := Lib.hid (by
    rw [hw2]
    exact ((HB1.out.setCell (by simp) _).setCell (by simp) _).alloc (by simp; omega) _)
  clear hw2 y0 y1 y2 y3 y4 y5 y6 y7 y8 f2 f7 HEA LTEA HX1 HX2 HB1 lt0 lt1
  obtain ⟨y0, y1, y2, y3, y4, y5, y6, y7, y8⟩ := st_nine hx1
  obtain ⟨z0, z1, z2, z3, z4, z5, z6, z7, z8⟩ := st_nine hx2
  obtain ⟨f0, f1, f2, f3, f4, f5, f6, f7, f8⟩ := st_nofrost hx1
  obtain ⟨g0, g1, g2, g3, g4, g5, g6, g7, g8⟩ := st_nofrost hx2
  clear hx1 hx2
  go_region
  go_wp2_with fail
  refine bodyPost_ret (v := .agg #[.int .i64 b, .int .i64 n, .int .i64 0, .int .i64 E', .int .i64 D', .int .i64 d, .int .i64 T', .int .i64 L', .int .i64 (-1)]) ?_ rfl ⟨rfl, ?_⟩
  · simp only [results, Tryd.results48]
    go_simp
  · with_reducible refine Below.drew ?_
    repeat (with_reducible refine Below.setCell ?_ (by simp) _)
    exact HB2.out
set_option maxRecDepth 100000 in
set_option maxHeartbeats 8000000 in
theorem graded_1z (x : StV) (d : Int) (w : World) (ht : TabG w) (h : inRng x) (h1 : x.la ≤ d) (h0 : 0 ≤ d) (h2 : d ≤ 100000) (hs : x.st = 0) :
    Calls Tryd.prog 48 #[x.v, .int .i64 1, .int .i64 d] w fun e w' => e = .returned (gradedV x 1 d).v ∧ Below w.heap.size w w' := by
  have HS := Lib.hid (fun W hW => stepsOn_any x d W hW h h1 h2)
  have hst := step_bd (d := d) h
  have hr := h
  unfold inRng at hr
  obtain ⟨q1, q2, q3, q4, q5⟩ := gradedV_eqs x 1 d
  rw [gradedV_v]
  have a1 : stepOf x 1 d = 0 := by unfold stepOf; simp
  have a2 : easeBy 1 = -20 := by unfold easeBy; simp
  rw [a1] at q1 q3
  rw [a2] at q2
  generalize (gradedV x 1 d).st = S' at *
  generalize (gradedV x 1 d).ea = E' at *
  generalize (gradedV x 1 d).du = D' at *
  generalize (gradedV x 1 d).ti = T' at *
  generalize (gradedV x 1 d).lp = L' at *
  generalize hardOf x d = hd at *
  generalize goodOf x d = gd at *
  generalize easyOf x d = es at *
  obtain ⟨k1, k2, k3, k4, k5, k6⟩ := hst
  have hs0 : 0 ≤ x.st := hr.2.2.1.1
  have hs1 : x.st ≤ 3650 := hr.2.2.1.2
  have he0 : 130 ≤ x.ea := hr.2.2.2.1.1
  have he1 : x.ea ≤ 400 := hr.2.2.2.1.2
  have hti0 : 0 ≤ x.ti := hr.2.2.2.2.2.2.1.1
  have hti1 : x.ti ≤ 20000 := hr.2.2.2.2.2.2.1.2
  have hlp0 : 0 ≤ x.lp := hr.2.2.2.2.2.2.2.1.1
  have hlp1 : x.lp ≤ 20000 := hr.2.2.2.2.2.2.2.1.2
  clear hr h a1 a2 h1
  obtain ⟨b, n, s, ea, du, la, ti, lp, bu⟩ := x
  unfold StV.v StV.cells at *
  dsimp only at *
  rw [if_neg (fun h => by have := h.2; omega)] at q5
  subst hs
  have c1 : 0 ≤ S' ∧ S' ≤ 3650 := by omega
  obtain ⟨c1, c2⟩ := c1
  obtain rfl : S' = 0 := by omega
  have r2 : (if ea + (-20) < 130 then (130 : Int) else ea + (-20)) = E' := by split <;> omega
  have e1 : E' ≤ 400 := by omega
  have r5 : (if 100000 < d + 1 then (100000 : Int) else d + 1) = D' := by split <;> omega
  have r6 : (if 20000 < ti + 1 then (20000 : Int) else ti + 1) = T' := by split <;> omega
  subst q5
  have HT := Lib.hid ht
  clear q1 q2 q3 q4 ht
  skip
  go_enter Tryd.func48, Tryd.ntmps48
  go_wp2_with fail
  have hb0 := ((Below.refl w.heap.size w).alloc (Nat.le_refl _) (.cells #[.int .i64 b, .int .i64 n, .int .i64 0, .int .i64 ea, .int .i64 du, .int .i64 la, .int .i64 ti, .int .i64 L', .int .i64 bu] 23)).alloc (by simp) (.cells #[.int .i64 0, .int .i64 0, .int .i64 0, .int .i64 0, .int .i64 0, .int .i64 0, .int .i64 0, .int .i64 0, .int .i64 0] 23)
  refine (HS.out _ (HT.out.below hb0)).mono ?_
  rintro e1 w1 ⟨rfl, hb1⟩
  have HB1 := Lib.hid (hb0.trans (hb1.mono (by simp; omega)))
  have hx1 : w1.heap[w.heap.size]? = some (.cells #[.int .i64 b, .int .i64 n, .int .i64 0, .int .i64 ea, .int .i64 du, .int .i64 la, .int .i64 ti, .int .i64 L', .int .i64 bu] 23 (0, 0)) := (hb1.block _ (by simp; omega)).trans ((Below.heap_alloc _ _ _ (by simp)).trans (heap_alloc_new w _))
  have hx2 : w1.heap[w.heap.size + 1]? = some (.cells #[.int .i64 0, .int .i64 0, .int .i64 0, .int .i64 0, .int .i64 0, .int .i64 0, .int .i64 0, .int .i64 0, .int .i64 0] 23 (0, 0)) := (hb1.block _ (by simp)).trans (by have := heap_alloc_new (w.alloc (.cells #[.int .i64 b, .int .i64 n, .int .i64 0, .int .i64 ea, .int .i64 du, .int .i64 la, .int .i64 ti, .int .i64 L', .int .i64 bu] 23)) (.cells #[.int .i64 0, .int .i64 0, .int .i64 0, .int .i64 0, .int .i64 0, .int .i64 0, .int .i64 0, .int .i64 0, .int .i64 0] 23); simpa using this)
  have lt1 := lt_of_block hx2
  have lt0 : w.heap.size < w1.heap.size := by omega
  have HT1 := HT.out.below HB1.out
  have ltea := World.block_lt_of_cell? w _ (HT.out.ea 1 (by omega))
  have hea := HT1.ea 1 (by omega)
  simp only [easeT, List.getD_cons_zero, List.getD_cons_succ] at hea
  have HEA := Lib.hid hea
  have LTEA := Lib.hid ltea
  have HX1 := Lib.hid hx1
  have HX2 := Lib.hid hx2
  obtain ⟨y0, y1, y2, y3, y4, y5, y6, y7, y8⟩ := st_nine hx1
  have f2 := frozen_of_row w1 w.heap.size 2 _ _ hx1
  have f7 := frozen_of_row w1 w.heap.size 7 _ _ hx1
  clear hb0 hb1 hx1 hx2 hea ltea HT1
  go_wp2_with fail
  skip
  obtain ⟨w2, hw2⟩ : ∃ w2, w2 = ((w1.setCell ⟨w.heap.size, 2, none⟩ (.int .i64 0)).alloc (.cells #[.int .i64 0, .int .i64 0, .int .i64 hd, .int .i64 gd, .int .i64 es] 95)) := ⟨_, rfl⟩
  rw [← hw2]
  have hx1 : w2.heap[w.heap.size]? = some (.cells #[.int .i64 b, .int .i64 n, .int .i64 0, .int .i64 ea, .int .i64 du, .int .i64 la, .int .i64 ti, .int .i64 L', .int .i64 bu] 23 (0, 0)) := by
    rw [hw2]
    exact (Below.heap_alloc _ _ _ (by simp; omega)).trans (heap_setCell_same _ _ 2 _ _ _ HX1.out)
  have hx2 : w2.heap[w.heap.size + 1]? = some (.cells #[.int .i64 0, .int .i64 0, .int .i64 0, .int .i64 0, .int .i64 0, .int .i64 0, .int .i64 0, .int .i64 0, .int .i64 0] 23 (0, 0)) := by
    rw [hw2]
    exact (Below.heap_alloc _ _ _ (by simp; omega)).trans ((heap_setCell_other _ _ _ _ (by simp)).trans HX2.out)
  have hea : w2.cell? ⟨0, 1, none⟩ = some (.int .i64 (-20)) := by
    rw [← HEA.out, hw2]
    exact World.cell?_of_block (w := w1) ((Below.heap_alloc _ _ _ (by have := LTEA.out; simp; omega)).trans (heap_setCell_other _ _ _ _ (by have := LTEA.out; simp; omega)))
  have HB2 : Hid (Below w.heap.size w w2) := Lib.hid (by
    rw [hw2]
    exact (HB1.out.setCell (by simp) _).alloc (by simp; omega) _)
  clear hw2 y0 y1 y2 y3 y4 y5 y6 y7 y8 f2 f7 HEA LTEA HX1 HX2 HB1 lt0 lt1
  obtain ⟨y0, y1, y2, y3, y4, y5, y6, y7, y8⟩ := st_nine hx1
  obtain ⟨z0, z1, z2, z3, z4, z5, z6, z7, z8⟩ := st_nine hx2
  obtain ⟨f0, f1, f2, f3, f4, f5, f6, f7, f8⟩ := st_nofrost hx1
  obtain ⟨g0, g1, g2, g3, g4, g5, g6, g7, g8⟩ := st_nofrost hx2
  clear hx1 hx2
  go_region
  go_wp2_with fail
  refine bodyPost_ret (v := .agg #[.int .i64 b, .int .i64 n, .int .i64 0, .int .i64 E', .int .i64 D', .int .i64 d, .int .i64 T', .int .i64 L', .int .i64 (-1)]) ?_ rfl ⟨rfl, ?_⟩
  · simp only [results, Tryd.results48]
    go_simp
  · with_reducible refine Below.drew ?_
    repeat (with_reducible refine Below.setCell ?_ (by simp) _)
    exact HB2.out
set_option maxRecDepth 100000 in
set_option maxHeartbeats 8000000 in
theorem graded_2 (x : StV) (d : Int) (w : World) (ht : TabG w) (h : inRng x) (h1 : x.la ≤ d) (h0 : 0 ≤ d) (h2 : d ≤ 100000) :
    Calls Tryd.prog 48 #[x.v, .int .i64 2, .int .i64 d] w fun e w' => e = .returned (gradedV x 2 d).v ∧ Below w.heap.size w w' := by
  have HS := Lib.hid (fun W hW => stepsOn_any x d W hW h h1 h2)
  have hst := step_bd (d := d) h
  have hr := h
  unfold inRng at hr
  obtain ⟨q1, q2, q3, q4, q5⟩ := gradedV_eqs x 2 d
  rw [gradedV_v]
  have a1 : stepOf x 2 d = hardOf x d := by unfold stepOf; simp
  have a2 : easeBy 2 = -15 := by unfold easeBy; simp
  rw [a1] at q1 q3
  rw [a2] at q2
  generalize (gradedV x 2 d).st = S' at *
  generalize (gradedV x 2 d).ea = E' at *
  generalize (gradedV x 2 d).du = D' at *
  generalize (gradedV x 2 d).ti = T' at *
  generalize (gradedV x 2 d).lp = L' at *
  generalize hardOf x d = hd at *
  generalize goodOf x d = gd at *
  generalize easyOf x d = es at *
  obtain ⟨k1, k2, k3, k4, k5, k6⟩ := hst
  have hs0 : 0 ≤ x.st := hr.2.2.1.1
  have hs1 : x.st ≤ 3650 := hr.2.2.1.2
  have he0 : 130 ≤ x.ea := hr.2.2.2.1.1
  have he1 : x.ea ≤ 400 := hr.2.2.2.1.2
  have hti0 : 0 ≤ x.ti := hr.2.2.2.2.2.2.1.1
  have hti1 : x.ti ≤ 20000 := hr.2.2.2.2.2.2.1.2
  have hlp0 : 0 ≤ x.lp := hr.2.2.2.2.2.2.2.1.1
  have hlp1 : x.lp ≤ 20000 := hr.2.2.2.2.2.2.2.1.2
  clear hr h a1 a2 h1
  obtain ⟨b, n, s, ea, du, la, ti, lp, bu⟩ := x
  unfold StV.v StV.cells at *
  dsimp only at *
  rw [if_neg (by simp)] at q5
  have c1 : 1 ≤ S' ∧ S' ≤ 3650 := by omega
  obtain ⟨c1, c2⟩ := c1
  have r1 : (if 3650 < hd then (3650 : Int) else hd) = S' := by split <;> omega
  have r2 : (if ea + (-15) < 130 then (130 : Int) else ea + (-15)) = E' := by split <;> omega
  have e1 : E' ≤ 400 := by omega
  have r5 : (if 100000 < d + S' then (100000 : Int) else d + S') = D' := by split <;> omega
  have r6 : (if 20000 < ti + 1 then (20000 : Int) else ti + 1) = T' := by split <;> omega
  subst q5
  have HT := Lib.hid ht
  clear q1 q2 q3 q4 ht
  skip
  go_enter Tryd.func48, Tryd.ntmps48
  go_wp2_with fail
  have hb0 := ((Below.refl w.heap.size w).alloc (Nat.le_refl _) (.cells #[.int .i64 b, .int .i64 n, .int .i64 s, .int .i64 ea, .int .i64 du, .int .i64 la, .int .i64 ti, .int .i64 L', .int .i64 bu] 23)).alloc (by simp) (.cells #[.int .i64 0, .int .i64 0, .int .i64 0, .int .i64 0, .int .i64 0, .int .i64 0, .int .i64 0, .int .i64 0, .int .i64 0] 23)
  refine (HS.out _ (HT.out.below hb0)).mono ?_
  rintro e1 w1 ⟨rfl, hb1⟩
  have HB1 := Lib.hid (hb0.trans (hb1.mono (by simp; omega)))
  have hx1 : w1.heap[w.heap.size]? = some (.cells #[.int .i64 b, .int .i64 n, .int .i64 s, .int .i64 ea, .int .i64 du, .int .i64 la, .int .i64 ti, .int .i64 L', .int .i64 bu] 23 (0, 0)) := (hb1.block _ (by simp; omega)).trans ((Below.heap_alloc _ _ _ (by simp)).trans (heap_alloc_new w _))
  have hx2 : w1.heap[w.heap.size + 1]? = some (.cells #[.int .i64 0, .int .i64 0, .int .i64 0, .int .i64 0, .int .i64 0, .int .i64 0, .int .i64 0, .int .i64 0, .int .i64 0] 23 (0, 0)) := (hb1.block _ (by simp)).trans (by have := heap_alloc_new (w.alloc (.cells #[.int .i64 b, .int .i64 n, .int .i64 s, .int .i64 ea, .int .i64 du, .int .i64 la, .int .i64 ti, .int .i64 L', .int .i64 bu] 23)) (.cells #[.int .i64 0, .int .i64 0, .int .i64 0, .int .i64 0, .int .i64 0, .int .i64 0, .int .i64 0, .int .i64 0, .int .i64 0] 23); simpa using this)
  have lt1 := lt_of_block hx2
  have lt0 : w.heap.size < w1.heap.size := by omega
  have HT1 := HT.out.below HB1.out
  have ltea := World.block_lt_of_cell? w _ (HT.out.ea 2 (by omega))
  have hea := HT1.ea 2 (by omega)
  simp only [easeT, List.getD_cons_zero, List.getD_cons_succ] at hea
  have HEA := Lib.hid hea
  have LTEA := Lib.hid ltea
  have HX1 := Lib.hid hx1
  have HX2 := Lib.hid hx2
  obtain ⟨y0, y1, y2, y3, y4, y5, y6, y7, y8⟩ := st_nine hx1
  have f2 := frozen_of_row w1 w.heap.size 2 _ _ hx1
  have f7 := frozen_of_row w1 w.heap.size 7 _ _ hx1
  clear hb0 hb1 hx1 hx2 hea ltea HT1
  go_wp2_with fail
  skip
  obtain ⟨w2, hw2⟩ : ∃ w2, w2 = ((w1.setCell ⟨w.heap.size, 2, none⟩ (.int .i64 S')).alloc (.cells #[.int .i64 0, .int .i64 0, .int .i64 hd, .int .i64 gd, .int .i64 es] 95)) := ⟨_, rfl⟩
  rw [← hw2]
  have hx1 : w2.heap[w.heap.size]? = some (.cells #[.int .i64 b, .int .i64 n, .int .i64 S', .int .i64 ea, .int .i64 du, .int .i64 la, .int .i64 ti, .int .i64 L', .int .i64 bu] 23 (0, 0)) := by
    rw [hw2]
    exact (Below.heap_alloc _ _ _ (by simp; omega)).trans (heap_setCell_same _ _ 2 _ _ _ HX1.out)
  have hx2 : w2.heap[w.heap.size + 1]? = some (.cells #[.int .i64 0, .int .i64 0, .int .i64 0, .int .i64 0, .int .i64 0, .int .i64 0, .int .i64 0, .int .i64 0, .int .i64 0] 23 (0, 0)) := by
    rw [hw2]
    exact (Below.heap_alloc _ _ _ (by simp; omega)).trans ((heap_setCell_other _ _ _ _ (by simp)).trans HX2.out)
  have hea : w2.cell? ⟨0, 2, none⟩ = some (.int .i64 (-15)) := by
    rw [← HEA.out, hw2]
    exact World.cell?_of_block (w := w1) ((Below.heap_alloc _ _ _ (by have := LTEA.out; simp; omega)).trans (heap_setCell_other _ _ _ _ (by have := LTEA.out; simp; omega)))
  have HB2 : Hid (Below w.heap.size w w2) := Lib.hid (by
    rw [hw2]
    exact (HB1.out.setCell (by simp) _).alloc (by simp; omega) _)
  clear hw2 y0 y1 y2 y3 y4 y5 y6 y7 y8 f2 f7 HEA LTEA HX1 HX2 HB1 lt0 lt1
  obtain ⟨y0, y1, y2, y3, y4, y5, y6, y7, y8⟩ := st_nine hx1
  obtain ⟨z0, z1, z2, z3, z4, z5, z6, z7, z8⟩ := st_nine hx2
  obtain ⟨f0, f1, f2, f3, f4, f5, f6, f7, f8⟩ := st_nofrost hx1
  obtain ⟨g0, g1, g2, g3, g4, g5, g6, g7, g8⟩ := st_nofrost hx2
  clear hx1 hx2
  go_region
  go_wp2_with fail
  refine bodyPost_ret (v := .agg #[.int .i64 b, .int .i64 n, .int .i64 S', .int .i64 E', .int .i64 D', .int .i64 d, .int .i64 T', .int .i64 L', .int .i64 (-1)]) ?_ rfl ⟨rfl, ?_⟩
  · simp only [results, Tryd.results48]
    go_simp
  · with_reducible refine Below.drew ?_
    repeat (with_reducible refine Below.setCell ?_ (by simp) _)
    exact HB2.out
set_option maxRecDepth 100000 in
set_option maxHeartbeats 8000000 in
theorem graded_3 (x : StV) (d : Int) (w : World) (ht : TabG w) (h : inRng x) (h1 : x.la ≤ d) (h0 : 0 ≤ d) (h2 : d ≤ 100000) :
    Calls Tryd.prog 48 #[x.v, .int .i64 3, .int .i64 d] w fun e w' => e = .returned (gradedV x 3 d).v ∧ Below w.heap.size w w' := by
  have HS := Lib.hid (fun W hW => stepsOn_any x d W hW h h1 h2)
  have hst := step_bd (d := d) h
  have hr := h
  unfold inRng at hr
  obtain ⟨q1, q2, q3, q4, q5⟩ := gradedV_eqs x 3 d
  rw [gradedV_v]
  have a1 : stepOf x 3 d = goodOf x d := by unfold stepOf; simp
  have a2 : easeBy 3 = 0 := by unfold easeBy; simp
  rw [a1] at q1 q3
  rw [a2] at q2
  generalize (gradedV x 3 d).st = S' at *
  generalize (gradedV x 3 d).ea = E' at *
  generalize (gradedV x 3 d).du = D' at *
  generalize (gradedV x 3 d).ti = T' at *
  generalize (gradedV x 3 d).lp = L' at *
  generalize hardOf x d = hd at *
  generalize goodOf x d = gd at *
  generalize easyOf x d = es at *
  obtain ⟨k1, k2, k3, k4, k5, k6⟩ := hst
  have hs0 : 0 ≤ x.st := hr.2.2.1.1
  have hs1 : x.st ≤ 3650 := hr.2.2.1.2
  have he0 : 130 ≤ x.ea := hr.2.2.2.1.1
  have he1 : x.ea ≤ 400 := hr.2.2.2.1.2
  have hti0 : 0 ≤ x.ti := hr.2.2.2.2.2.2.1.1
  have hti1 : x.ti ≤ 20000 := hr.2.2.2.2.2.2.1.2
  have hlp0 : 0 ≤ x.lp := hr.2.2.2.2.2.2.2.1.1
  have hlp1 : x.lp ≤ 20000 := hr.2.2.2.2.2.2.2.1.2
  clear hr h a1 a2 h1
  obtain ⟨b, n, s, ea, du, la, ti, lp, bu⟩ := x
  unfold StV.v StV.cells at *
  dsimp only at *
  rw [if_neg (by simp)] at q5
  have c1 : 1 ≤ S' ∧ S' ≤ 3650 := by omega
  obtain ⟨c1, c2⟩ := c1
  have r1 : (if 3650 < gd then (3650 : Int) else gd) = S' := by split <;> omega
  obtain rfl : E' = ea := by omega
  have r5 : (if 100000 < d + S' then (100000 : Int) else d + S') = D' := by split <;> omega
  have r6 : (if 20000 < ti + 1 then (20000 : Int) else ti + 1) = T' := by split <;> omega
  subst q5
  have HT := Lib.hid ht
  clear q1 q2 q3 q4 ht
  skip
  go_enter Tryd.func48, Tryd.ntmps48
  go_wp2_with fail
  have hb0 := ((Below.refl w.heap.size w).alloc (Nat.le_refl _) (.cells #[.int .i64 b, .int .i64 n, .int .i64 s, .int .i64 E', .int .i64 du, .int .i64 la, .int .i64 ti, .int .i64 L', .int .i64 bu] 23)).alloc (by simp) (.cells #[.int .i64 0, .int .i64 0, .int .i64 0, .int .i64 0, .int .i64 0, .int .i64 0, .int .i64 0, .int .i64 0, .int .i64 0] 23)
  refine (HS.out _ (HT.out.below hb0)).mono ?_
  rintro e1 w1 ⟨rfl, hb1⟩
  have HB1 := Lib.hid (hb0.trans (hb1.mono (by simp; omega)))
  have hx1 : w1.heap[w.heap.size]? = some (.cells #[.int .i64 b, .int .i64 n, .int .i64 s, .int .i64 E', .int .i64 du, .int .i64 la, .int .i64 ti, .int .i64 L', .int .i64 bu] 23 (0, 0)) := (hb1.block _ (by simp; omega)).trans ((Below.heap_alloc _ _ _ (by simp)).trans (heap_alloc_new w _))
  have hx2 : w1.heap[w.heap.size + 1]? = some (.cells #[.int .i64 0, .int .i64 0, .int .i64 0, .int .i64 0, .int .i64 0, .int .i64 0, .int .i64 0, .int .i64 0, .int .i64 0] 23 (0, 0)) := (hb1.block _ (by simp)).trans (by have := heap_alloc_new (w.alloc (.cells #[.int .i64 b, .int .i64 n, .int .i64 s, .int .i64 E', .int .i64 du, .int .i64 la, .int .i64 ti, .int .i64 L', .int .i64 bu] 23)) (.cells #[.int .i64 0, .int .i64 0, .int .i64 0, .int .i64 0, .int .i64 0, .int .i64 0, .int .i64 0, .int .i64 0, .int .i64 0] 23); simpa using this)
  have lt1 := lt_of_block hx2
  have lt0 : w.heap.size < w1.heap.size := by omega
  have HT1 := HT.out.below HB1.out
  have ltea := World.block_lt_of_cell? w _ (HT.out.ea 3 (by omega))
  have hea := HT1.ea 3 (by omega)
  simp only [easeT, List.getD_cons_zero, List.getD_cons_succ] at hea
  have HEA := Lib.hid hea
  have LTEA := Lib.hid ltea
  have HX1 := Lib.hid hx1
  have HX2 := Lib.hid hx2
  obtain ⟨y0, y1, y2, y3, y4, y5, y6, y7, y8⟩ := st_nine hx1
  have f2 := frozen_of_row w1 w.heap.size 2 _ _ hx1
  have f7 := frozen_of_row w1 w.heap.size 7 _ _ hx1
  clear hb0 hb1 hx1 hx2 hea ltea HT1
  go_wp2_with fail
  skip
  obtain ⟨w2, hw2⟩ : ∃ w2, w2 = ((w1.setCell ⟨w.heap.size, 2, none⟩ (.int .i64 S')).alloc (.cells #[.int .i64 0, .int .i64 0, .int .i64 hd, .int .i64 gd, .int .i64 es] 95)) := ⟨_, rfl⟩
  rw [← hw2]
  have hx1 : w2.heap[w.heap.size]? = some (.cells #[.int .i64 b, .int .i64 n, .int .i64 S', .int .i64 E', .int .i64 du, .int .i64 la, .int .i64 ti, .int .i64 L', .int .i64 bu] 23 (0, 0)) := by
    rw [hw2]
    exact (Below.heap_alloc _ _ _ (by simp; omega)).trans (heap_setCell_same _ _ 2 _ _ _ HX1.out)
  have hx2 : w2.heap[w.heap.size + 1]? = some (.cells #[.int .i64 0, .int .i64 0, .int .i64 0, .int .i64 0, .int .i64 0, .int .i64 0, .int .i64 0, .int .i64 0, .int .i64 0] 23 (0, 0)) := by
    rw [hw2]
    exact (Below.heap_alloc _ _ _ (by simp; omega)).trans ((heap_setCell_other _ _ _ _ (by simp)).trans HX2.out)
  have hea : w2.cell? ⟨0, 3, none⟩ = some (.int .i64 (0)) := by
    rw [← HEA.out, hw2]
    exact World.cell?_of_block (w := w1) ((Below.heap_alloc _ _ _ (by have := LTEA.out; simp; omega)).trans (heap_setCell_other _ _ _ _ (by have := LTEA.out; simp; omega)))
  have HB2 : Hid (Below w.heap.size w w2) := Lib.hid (by
    rw [hw2]
    exact (HB1.out.setCell (by simp) _).alloc (by simp; omega) _)
  clear hw2 y0 y1 y2 y3 y4 y5 y6 y7 y8 f2 f7 HEA LTEA HX1 HX2 HB1 lt0 lt1
  obtain ⟨y0, y1, y2, y3, y4, y5, y6, y7, y8⟩ := st_nine hx1
  obtain ⟨z0, z1, z2, z3, z4, z5, z6, z7, z8⟩ := st_nine hx2
  obtain ⟨f0, f1, f2, f3, f4, f5, f6, f7, f8⟩ := st_nofrost hx1
  obtain ⟨g0, g1, g2, g3, g4, g5, g6, g7, g8⟩ := st_nofrost hx2
  clear hx1 hx2
  go_region
  go_wp2_with fail
  refine bodyPost_ret (v := .agg #[.int .i64 b, .int .i64 n, .int .i64 S', .int .i64 E', .int .i64 D', .int .i64 d, .int .i64 T', .int .i64 L', .int .i64 (-1)]) ?_ rfl ⟨rfl, ?_⟩
  · simp only [results, Tryd.results48]
    go_simp
  · with_reducible refine Below.drew ?_
    repeat (with_reducible refine Below.setCell ?_ (by simp) _)
    exact HB2.out
set_option maxRecDepth 100000 in
set_option maxHeartbeats 8000000 in
theorem graded_4 (x : StV) (d : Int) (w : World) (ht : TabG w) (h : inRng x) (h1 : x.la ≤ d) (h0 : 0 ≤ d) (h2 : d ≤ 100000) :
    Calls Tryd.prog 48 #[x.v, .int .i64 4, .int .i64 d] w fun e w' => e = .returned (gradedV x 4 d).v ∧ Below w.heap.size w w' := by
  have HS := Lib.hid (fun W hW => stepsOn_any x d W hW h h1 h2)
  have hst := step_bd (d := d) h
  have hr := h
  unfold inRng at hr
  obtain ⟨q1, q2, q3, q4, q5⟩ := gradedV_eqs x 4 d
  rw [gradedV_v]
  have a1 : stepOf x 4 d = easyOf x d := by unfold stepOf; simp
  have a2 : easeBy 4 = 15 := by unfold easeBy; simp
  rw [a1] at q1 q3
  rw [a2] at q2
  generalize (gradedV x 4 d).st = S' at *
  generalize (gradedV x 4 d).ea = E' at *
  generalize (gradedV x 4 d).du = D' at *
  generalize (gradedV x 4 d).ti = T' at *
  generalize (gradedV x 4 d).lp = L' at *
  generalize hardOf x d = hd at *
  generalize goodOf x d = gd at *
  generalize easyOf x d = es at *
  obtain ⟨k1, k2, k3, k4, k5, k6⟩ := hst
  have hs0 : 0 ≤ x.st := hr.2.2.1.1
  have hs1 : x.st ≤ 3650 := hr.2.2.1.2
  have he0 : 130 ≤ x.ea := hr.2.2.2.1.1
  have he1 : x.ea ≤ 400 := hr.2.2.2.1.2
  have hti0 : 0 ≤ x.ti := hr.2.2.2.2.2.2.1.1
  have hti1 : x.ti ≤ 20000 := hr.2.2.2.2.2.2.1.2
  have hlp0 : 0 ≤ x.lp := hr.2.2.2.2.2.2.2.1.1
  have hlp1 : x.lp ≤ 20000 := hr.2.2.2.2.2.2.2.1.2
  clear hr h a1 a2 h1
  obtain ⟨b, n, s, ea, du, la, ti, lp, bu⟩ := x
  unfold StV.v StV.cells at *
  dsimp only at *
  rw [if_neg (by simp)] at q5
  have c1 : 1 ≤ S' ∧ S' ≤ 3650 := by omega
  obtain ⟨c1, c2⟩ := c1
  have r1 : (if 3650 < es then (3650 : Int) else es) = S' := by split <;> omega
  have r3 : (if 400 < ea + 15 then (400 : Int) else ea + 15) = E' := by split <;> omega
  have r5 : (if 100000 < d + S' then (100000 : Int) else d + S') = D' := by split <;> omega
  have r6 : (if 20000 < ti + 1 then (20000 : Int) else ti + 1) = T' := by split <;> omega
  subst q5
  have HT := Lib.hid ht
  clear q1 q2 q3 q4 ht
  skip
  go_enter Tryd.func48, Tryd.ntmps48
  go_wp2_with fail
  have hb0 := ((Below.refl w.heap.size w).alloc (Nat.le_refl _) (.cells #[.int .i64 b, .int .i64 n, .int .i64 s, .int .i64 ea, .int .i64 du, .int .i64 la, .int .i64 ti, .int .i64 L', .int .i64 bu] 23)).alloc (by simp) (.cells #[.int .i64 0, .int .i64 0, .int .i64 0, .int .i64 0, .int .i64 0, .int .i64 0, .int .i64 0, .int .i64 0, .int .i64 0] 23)
  refine (HS.out _ (HT.out.below hb0)).mono ?_
  rintro e1 w1 ⟨rfl, hb1⟩
  have HB1 := Lib.hid (hb0.trans (hb1.mono (by simp; omega)))
  have hx1 : w1.heap[w.heap.size]? = some (.cells #[.int .i64 b, .int .i64 n, .int .i64 s, .int .i64 ea, .int .i64 du, .int .i64 la, .int .i64 ti, .int .i64 L', .int .i64 bu] 23 (0, 0)) := (hb1.block _ (by simp; omega)).trans ((Below.heap_alloc _ _ _ (by simp)).trans (heap_alloc_new w _))
  have hx2 : w1.heap[w.heap.size + 1]? = some (.cells #[.int .i64 0, .int .i64 0, .int .i64 0, .int .i64 0, .int .i64 0, .int .i64 0, .int .i64 0, .int .i64 0, .int .i64 0] 23 (0, 0)) := (hb1.block _ (by simp)).trans (by have := heap_alloc_new (w.alloc (.cells #[.int .i64 b, .int .i64 n, .int .i64 s, .int .i64 ea, .int .i64 du, .int .i64 la, .int .i64 ti, .int .i64 L', .int .i64 bu] 23)) (.cells #[.int .i64 0, .int .i64 0, .int .i64 0, .int .i64 0, .int .i64 0, .int .i64 0, .int .i64 0, .int .i64 0, .int .i64 0] 23); simpa using this)
  have lt1 := lt_of_block hx2
  have lt0 : w.heap.size < w1.heap.size := by omega
  have HT1 := HT.out.below HB1.out
  have ltea := World.block_lt_of_cell? w _ (HT.out.ea 4 (by omega))
  have hea := HT1.ea 4 (by omega)
  simp only [easeT, List.getD_cons_zero, List.getD_cons_succ] at hea
  have HEA := Lib.hid hea
  have LTEA := Lib.hid ltea
  have HX1 := Lib.hid hx1
  have HX2 := Lib.hid hx2
  obtain ⟨y0, y1, y2, y3, y4, y5, y6, y7, y8⟩ := st_nine hx1
  have f2 := frozen_of_row w1 w.heap.size 2 _ _ hx1
  have f7 := frozen_of_row w1 w.heap.size 7 _ _ hx1
  clear hb0 hb1 hx1 hx2 hea ltea HT1
  go_wp2_with fail
  skip
  obtain ⟨w2, hw2⟩ : ∃ w2, w2 = ((w1.setCell ⟨w.heap.size, 2, none⟩ (.int .i64 S')).alloc (.cells #[.int .i64 0, .int .i64 0, .int .i64 hd, .int .i64 gd, .int .i64 es] 95)) := ⟨_, rfl⟩
  rw [← hw2]
  have hx1 : w2.heap[w.heap.size]? = some (.cells #[.int .i64 b, .int .i64 n, .int .i64 S', .int .i64 ea, .int .i64 du, .int .i64 la, .int .i64 ti, .int .i64 L', .int .i64 bu] 23 (0, 0)) := by
    rw [hw2]
    exact (Below.heap_alloc _ _ _ (by simp; omega)).trans (heap_setCell_same _ _ 2 _ _ _ HX1.out)
  have hx2 : w2.heap[w.heap.size + 1]? = some (.cells #[.int .i64 0, .int .i64 0, .int .i64 0, .int .i64 0, .int .i64 0, .int .i64 0, .int .i64 0, .int .i64 0, .int .i64 0] 23 (0, 0)) := by
    rw [hw2]
    exact (Below.heap_alloc _ _ _ (by simp; omega)).trans ((heap_setCell_other _ _ _ _ (by simp)).trans HX2.out)
  have hea : w2.cell? ⟨0, 4, none⟩ = some (.int .i64 (15)) := by
    rw [← HEA.out, hw2]
    exact World.cell?_of_block (w := w1) ((Below.heap_alloc _ _ _ (by have := LTEA.out; simp; omega)).trans (heap_setCell_other _ _ _ _ (by have := LTEA.out; simp; omega)))
  have HB2 : Hid (Below w.heap.size w w2) := Lib.hid (by
    rw [hw2]
    exact (HB1.out.setCell (by simp) _).alloc (by simp; omega) _)
  clear hw2 y0 y1 y2 y3 y4 y5 y6 y7 y8 f2 f7 HEA LTEA HX1 HX2 HB1 lt0 lt1
  obtain ⟨y0, y1, y2, y3, y4, y5, y6, y7, y8⟩ := st_nine hx1
  obtain ⟨z0, z1, z2, z3, z4, z5, z6, z7, z8⟩ := st_nine hx2
  obtain ⟨f0, f1, f2, f3, f4, f5, f6, f7, f8⟩ := st_nofrost hx1
  obtain ⟨g0, g1, g2, g3, g4, g5, g6, g7, g8⟩ := st_nofrost hx2
  clear hx1 hx2
  go_region
  go_wp2_with fail
  refine bodyPost_ret (v := .agg #[.int .i64 b, .int .i64 n, .int .i64 S', .int .i64 E', .int .i64 D', .int .i64 d, .int .i64 T', .int .i64 L', .int .i64 (-1)]) ?_ rfl ⟨rfl, ?_⟩
  · simp only [results, Tryd.results48]
    go_simp
  · with_reducible refine Below.drew ?_
    repeat (with_reducible refine Below.setCell ?_ (by simp) _)
    exact HB2.out
end Go.Proofs.YtnellkdiafglgaaDoor
