/- Cards: Grade of the program. -/
import Derived.Test.YtnellkdiafglgaaDoorCdH
namespace Go.Proofs.YtnellkdiafglgaaDoor
open Go.RowKit Go.Shelf

theorem graded_any (x : StV) (g d : Int) (w : World) (ht : TabG w) (h : inRng x) (h1 : x.la ≤ d) (h0 : 0 ≤ d) (h2 : d ≤ 100000) (g1 : 1 ≤ g) (g4 : g ≤ 4) :
    Calls Tryd.prog 48 #[x.v, .int .i64 g, .int .i64 d] w fun e w' => e = .returned (gradedV x g d).v ∧ Below w.heap.size w w' := by
  rcases (by omega : g = 1 ∨ g = 2 ∨ g = 3 ∨ g = 4) with rfl | rfl | rfl | rfl
  · by_cases hs : 0 < x.st
    · exact graded_1s x d w ht h h1 h0 h2 hs
    · exact graded_1z x d w ht h h1 h0 h2 (by have := h.2.2.1.1; omega)
  · exact graded_2 x d w ht h h1 h0 h2
  · exact graded_3 x d w ht h h1 h0 h2
  · exact graded_4 x d w ht h h1 h0 h2
set_option maxHeartbeats 400000 in
theorem isGrade_p (g : Int) (w : World) : Calls Tryd.prog 46 #[.int .i64 g] w fun e w' => e = .returned (.bool (pFrom g 1 4)) ∧ w = w' := by
  go_enter Tryd.func46, Tryd.ntmps46
  go_wp2_with fail
  refine (isFrom_p _ _ _ _).mono ?_
  rintro e1 w1 ⟨rfl, rfl⟩
  go_wp2_with fail
  go_ret
  exact ⟨rfl, rfl⟩
theorem gradeE_state {x : StV} {g d : Int} (h : stE x ≠ 0) : gradeE x g d = stE x := by unfold gradeE; rw [if_pos h]
theorem gradeE_kind {x : StV} {g d : Int} (h : stE x = 0) (h1 : ¬ (1 ≤ g ∧ g ≤ 4)) : gradeE x g d = 10 := by unfold gradeE; rw [if_neg (by omega), if_pos (by omega)]
theorem gradeE_day {x : StV} {g d : Int} (h : stE x = 0) (h1 : 1 ≤ g ∧ g ≤ 4) (h2 : ¬ (0 ≤ d ∧ d ≤ 100000)) : gradeE x g d = 2 := by unfold gradeE; rw [if_neg (by omega), if_neg (by omega), if_pos (by omega)]
theorem gradeE_order {x : StV} {g d : Int} (h : stE x = 0) (h1 : 1 ≤ g ∧ g ≤ 4) (h2 : 0 ≤ d ∧ d ≤ 100000) (h3 : d < x.la) : gradeE x g d = 5 := by unfold gradeE; rw [if_neg (by omega), if_neg (by omega), if_neg (by omega), if_pos h3]
theorem gradeE_good {x : StV} {g d : Int} (h : stE x = 0) (h1 : 1 ≤ g ∧ g ≤ 4) (h2 : 0 ≤ d ∧ d ≤ 100000) (h3 : ¬ d < x.la) : gradeE x g d = 0 := by unfold gradeE; rw [if_neg (by omega), if_neg (by omega), if_neg (by omega), if_neg h3]
theorem gradeV_good {x : StV} {g d : Int} (h : gradeE x g d = 0) : gradeV x g d = gradedV x g d := by unfold gradeV; rw [if_pos h]
theorem gradeV_bad {x : StV} {g d : Int} (h : gradeE x g d ≠ 0) : gradeV x g d = StV.zero := by unfold gradeV; rw [if_neg h]
theorem zero_v : StV.zero.v = .agg #[.int .i64 0, .int .i64 0, .int .i64 0, .int .i64 0, .int .i64 0, .int .i64 0, .int .i64 0, .int .i64 0, .int .i64 0] := rfl
set_option maxRecDepth 100000 in
set_option maxHeartbeats 8000000 in
theorem grade_bad (x : StV) (g d : Int) (w : World) (h : gradeE x g d ≠ 0) :
    Calls Tryd.prog 18 #[x.v, .int .i64 g, .int .i64 d] w fun e w' => e = .returned (.tuple #[StV.zero.v, .int .i64 (gradeE x g d)]) ∧ Below w.heap.size w w' := by
  have HCK := Lib.hid (fun W => checkState_any x W)
  have HIG := Lib.hid (fun W => isGrade_p g W)
  have HID := Lib.hid (fun W => isDay_p d W)
  rw [zero_v]
  by_cases hs : stE x = 0
  case neg =>
    rw [gradeE_state hs]
    have hs' : (stE x != 0) = true := bne_iff_ne.2 hs
    clear h hs
    generalize stE x = E at *
    obtain ⟨b, n, s, ea, du, la, ti, lp, bu⟩ := x
    unfold StV.v StV.cells at *
    dsimp only at *
    have hb0 := ((Below.refl w.heap.size w).alloc (Nat.le_refl _) (.cells #[.int .i64 b, .int .i64 n, .int .i64 s, .int .i64 ea, .int .i64 du, .int .i64 la, .int .i64 ti, .int .i64 lp, .int .i64 bu] 23)).alloc (by simp) (.cells #[.int .i64 0, .int .i64 0, .int .i64 0, .int .i64 0, .int .i64 0, .int .i64 0, .int .i64 0, .int .i64 0, .int .i64 0] 23)
    go_enter Tryd.func18, Tryd.ntmps18
    go_wp2_with fail
    refine (HCK.out _).mono ?_
    rintro e1 w1 ⟨rfl, hb1⟩
    have HB1 := Lib.hid (hb0.trans (hb1.mono (by simp; omega)))
    have hx1 : w1.heap[w.heap.size]? = some (.cells #[.int .i64 b, .int .i64 n, .int .i64 s, .int .i64 ea, .int .i64 du, .int .i64 la, .int .i64 ti, .int .i64 lp, .int .i64 bu] 23 (0, 0)) := (hb1.block _ (by simp; omega)).trans ((Below.heap_alloc _ _ _ (by simp)).trans (heap_alloc_new w _))
    have hx2 : w1.heap[w.heap.size + 1]? = some (.cells #[.int .i64 0, .int .i64 0, .int .i64 0, .int .i64 0, .int .i64 0, .int .i64 0, .int .i64 0, .int .i64 0, .int .i64 0] 23 (0, 0)) := (hb1.block _ (by simp)).trans (by have := heap_alloc_new (w.alloc (.cells #[.int .i64 b, .int .i64 n, .int .i64 s, .int .i64 ea, .int .i64 du, .int .i64 la, .int .i64 ti, .int .i64 lp, .int .i64 bu] 23)) (.cells #[.int .i64 0, .int .i64 0, .int .i64 0, .int .i64 0, .int .i64 0, .int .i64 0, .int .i64 0, .int .i64 0, .int .i64 0] 23); simpa using this)
    have HX2 := Lib.hid hx2
    clear hb0 hb1
    obtain ⟨y0, y1, y2, y3, y4, y5, y6, y7, y8⟩ := st_nine hx1
    obtain ⟨z0, z1, z2, z3, z4, z5, z6, z7, z8⟩ := st_nine hx2
    obtain ⟨g0, g1, g2, g3, g4, g5, g6, g7, g8⟩ := st_nofrost hx2
    clear hx1 hx2
    have HBL := HB1
    go_wp2_with fail
    refine bodyPost_ret (v := .tuple #[.agg #[.int .i64 0, .int .i64 0, .int .i64 0, .int .i64 0, .int .i64 0, .int .i64 0, .int .i64 0, .int .i64 0, .int .i64 0], .int .i64 E]) ?_ rfl ⟨rfl, ?_⟩
    · simp only [results, Tryd.results18]
      go_simp
    · repeat (with_reducible refine Below.setCell ?_ (by simp) _)
      exact HBL.out
  case pos =>
    rw [hs] at HCK
    have hla := (stE_ok hs).1.2.2.2.2.2.1.1
    by_cases hg : 1 ≤ g ∧ g ≤ 4
    case neg =>
      rw [gradeE_kind hs hg]
      rw [pFrom_false hg] at HIG
      clear h hs hg
      obtain ⟨b, n, s, ea, du, la, ti, lp, bu⟩ := x
      unfold StV.v StV.cells at *
      dsimp only at *
      have hb0 := ((Below.refl w.heap.size w).alloc (Nat.le_refl _) (.cells #[.int .i64 b, .int .i64 n, .int .i64 s, .int .i64 ea, .int .i64 du, .int .i64 la, .int .i64 ti, .int .i64 lp, .int .i64 bu] 23)).alloc (by simp) (.cells #[.int .i64 0, .int .i64 0, .int .i64 0, .int .i64 0, .int .i64 0, .int .i64 0, .int .i64 0, .int .i64 0, .int .i64 0] 23)
      go_enter Tryd.func18, Tryd.ntmps18
      go_wp2_with fail
      refine (HCK.out _).mono ?_
      rintro e1 w1 ⟨rfl, hb1⟩
      have HB1 := Lib.hid (hb0.trans (hb1.mono (by simp; omega)))
      have hx1 : w1.heap[w.heap.size]? = some (.cells #[.int .i64 b, .int .i64 n, .int .i64 s, .int .i64 ea, .int .i64 du, .int .i64 la, .int .i64 ti, .int .i64 lp, .int .i64 bu] 23 (0, 0)) := (hb1.block _ (by simp; omega)).trans ((Below.heap_alloc _ _ _ (by simp)).trans (heap_alloc_new w _))
      have hx2 : w1.heap[w.heap.size + 1]? = some (.cells #[.int .i64 0, .int .i64 0, .int .i64 0, .int .i64 0, .int .i64 0, .int .i64 0, .int .i64 0, .int .i64 0, .int .i64 0] 23 (0, 0)) := (hb1.block _ (by simp)).trans (by have := heap_alloc_new (w.alloc (.cells #[.int .i64 b, .int .i64 n, .int .i64 s, .int .i64 ea, .int .i64 du, .int .i64 la, .int .i64 ti, .int .i64 lp, .int .i64 bu] 23)) (.cells #[.int .i64 0, .int .i64 0, .int .i64 0, .int .i64 0, .int .i64 0, .int .i64 0, .int .i64 0, .int .i64 0, .int .i64 0] 23); simpa using this)
      have HX2 := Lib.hid hx2
      clear hb0 hb1
      obtain ⟨y0, y1, y2, y3, y4, y5, y6, y7, y8⟩ := st_nine hx1
      obtain ⟨z0, z1, z2, z3, z4, z5, z6, z7, z8⟩ := st_nine hx2
      obtain ⟨g0, g1, g2, g3, g4, g5, g6, g7, g8⟩ := st_nofrost hx2
      clear hx1 hx2
      go_wp2_with fail
      refine (HIG.out _).mono ?_
      rintro e2 w2 ⟨rfl, rfl⟩
      have HBL := HB1
      go_wp2_with fail
      refine bodyPost_ret (v := .tuple #[.agg #[.int .i64 0, .int .i64 0, .int .i64 0, .int .i64 0, .int .i64 0, .int .i64 0, .int .i64 0, .int .i64 0, .int .i64 0], .int .i64 10]) ?_ rfl ⟨rfl, ?_⟩
      · simp only [results, Tryd.results18]
        go_simp
      · repeat (with_reducible refine Below.setCell ?_ (by simp) _)
        exact HBL.out
    case pos =>
      rw [pFrom_true hg] at HIG
      by_cases hd : 0 ≤ d ∧ d ≤ 100000
      case neg =>
        rw [gradeE_day hs hg hd]
        rw [pFrom_false hd] at HID
        clear h hs hg hd
        obtain ⟨b, n, s, ea, du, la, ti, lp, bu⟩ := x
        unfold StV.v StV.cells at *
        dsimp only at *
        have hb0 := ((Below.refl w.heap.size w).alloc (Nat.le_refl _) (.cells #[.int .i64 b, .int .i64 n, .int .i64 s, .int .i64 ea, .int .i64 du, .int .i64 la, .int .i64 ti, .int .i64 lp, .int .i64 bu] 23)).alloc (by simp) (.cells #[.int .i64 0, .int .i64 0, .int .i64 0, .int .i64 0, .int .i64 0, .int .i64 0, .int .i64 0, .int .i64 0, .int .i64 0] 23)
        go_enter Tryd.func18, Tryd.ntmps18
        go_wp2_with fail
        refine (HCK.out _).mono ?_
        rintro e1 w1 ⟨rfl, hb1⟩
        have HB1 := Lib.hid (hb0.trans (hb1.mono (by simp; omega)))
        have hx1 : w1.heap[w.heap.size]? = some (.cells #[.int .i64 b, .int .i64 n, .int .i64 s, .int .i64 ea, .int .i64 du, .int .i64 la, .int .i64 ti, .int .i64 lp, .int .i64 bu] 23 (0, 0)) := (hb1.block _ (by simp; omega)).trans ((Below.heap_alloc _ _ _ (by simp)).trans (heap_alloc_new w _))
        have hx2 : w1.heap[w.heap.size + 1]? = some (.cells #[.int .i64 0, .int .i64 0, .int .i64 0, .int .i64 0, .int .i64 0, .int .i64 0, .int .i64 0, .int .i64 0, .int .i64 0] 23 (0, 0)) := (hb1.block _ (by simp)).trans (by have := heap_alloc_new (w.alloc (.cells #[.int .i64 b, .int .i64 n, .int .i64 s, .int .i64 ea, .int .i64 du, .int .i64 la, .int .i64 ti, .int .i64 lp, .int .i64 bu] 23)) (.cells #[.int .i64 0, .int .i64 0, .int .i64 0, .int .i64 0, .int .i64 0, .int .i64 0, .int .i64 0, .int .i64 0, .int .i64 0] 23); simpa using this)
        have HX2 := Lib.hid hx2
        clear hb0 hb1
        obtain ⟨y0, y1, y2, y3, y4, y5, y6, y7, y8⟩ := st_nine hx1
        obtain ⟨z0, z1, z2, z3, z4, z5, z6, z7, z8⟩ := st_nine hx2
        obtain ⟨g0, g1, g2, g3, g4, g5, g6, g7, g8⟩ := st_nofrost hx2
        clear hx1 hx2
        go_wp2_with fail
        refine (HIG.out _).mono ?_
        rintro e2 w2 ⟨rfl, rfl⟩
        go_wp2_with fail
        refine (HID.out _).mono ?_
        rintro e2 w2 ⟨rfl, rfl⟩
        have HBL := HB1
        go_wp2_with fail
        refine bodyPost_ret (v := .tuple #[.agg #[.int .i64 0, .int .i64 0, .int .i64 0, .int .i64 0, .int .i64 0, .int .i64 0, .int .i64 0, .int .i64 0, .int .i64 0], .int .i64 2]) ?_ rfl ⟨rfl, ?_⟩
        · simp only [results, Tryd.results18]
          go_simp
        · repeat (with_reducible refine Below.setCell ?_ (by simp) _)
          exact HBL.out
      case pos =>
        rw [pFrom_true hd] at HID
        by_cases hlt : d < x.la
        case neg => exact absurd (gradeE_good hs hg hd hlt) h
        case pos =>
          rw [gradeE_order hs hg hd hlt]
          clear h hs hg hd
          obtain ⟨b, n, s, ea, du, la, ti, lp, bu⟩ := x
          unfold StV.v StV.cells at *
          dsimp only at *
          have hb0 := ((Below.refl w.heap.size w).alloc (Nat.le_refl _) (.cells #[.int .i64 b, .int .i64 n, .int .i64 s, .int .i64 ea, .int .i64 du, .int .i64 la, .int .i64 ti, .int .i64 lp, .int .i64 bu] 23)).alloc (by simp) (.cells #[.int .i64 0, .int .i64 0, .int .i64 0, .int .i64 0, .int .i64 0, .int .i64 0, .int .i64 0, .int .i64 0, .int .i64 0] 23)
          go_enter Tryd.func18, Tryd.ntmps18
          go_wp2_with fail
          refine (HCK.out _).mono ?_
          rintro e1 w1 ⟨rfl, hb1⟩
          have HB1 := Lib.hid (hb0.trans (hb1.mono (by simp; omega)))
          have hx1 : w1.heap[w.heap.size]? = some (.cells #[.int .i64 b, .int .i64 n, .int .i64 s, .int .i64 ea, .int .i64 du, .int .i64 la, .int .i64 ti, .int .i64 lp, .int .i64 bu] 23 (0, 0)) := (hb1.block _ (by simp; omega)).trans ((Below.heap_alloc _ _ _ (by simp)).trans (heap_alloc_new w _))
          have hx2 : w1.heap[w.heap.size + 1]? = some (.cells #[.int .i64 0, .int .i64 0, .int .i64 0, .int .i64 0, .int .i64 0, .int .i64 0, .int .i64 0, .int .i64 0, .int .i64 0] 23 (0, 0)) := (hb1.block _ (by simp)).trans (by have := heap_alloc_new (w.alloc (.cells #[.int .i64 b, .int .i64 n, .int .i64 s, .int .i64 ea, .int .i64 du, .int .i64 la, .int .i64 ti, .int .i64 lp, .int .i64 bu] 23)) (.cells #[.int .i64 0, .int .i64 0, .int .i64 0, .int .i64 0, .int .i64 0, .int .i64 0, .int .i64 0, .int .i64 0, .int .i64 0] 23); simpa using this)
          have HX2 := Lib.hid hx2
          clear hb0 hb1
          obtain ⟨y0, y1, y2, y3, y4, y5, y6, y7, y8⟩ := st_nine hx1
          obtain ⟨z0, z1, z2, z3, z4, z5, z6, z7, z8⟩ := st_nine hx2
          obtain ⟨g0, g1, g2, g3, g4, g5, g6, g7, g8⟩ := st_nofrost hx2
          clear hx1 hx2
          go_wp2_with fail
          refine (HIG.out _).mono ?_
          rintro e2 w2 ⟨rfl, rfl⟩
          go_wp2_with fail
          refine (HID.out _).mono ?_
          rintro e2 w2 ⟨rfl, rfl⟩
          have HBL := HB1
          go_wp2_with fail
          refine bodyPost_ret (v := .tuple #[.agg #[.int .i64 0, .int .i64 0, .int .i64 0, .int .i64 0, .int .i64 0, .int .i64 0, .int .i64 0, .int .i64 0, .int .i64 0], .int .i64 5]) ?_ rfl ⟨rfl, ?_⟩
          · simp only [results, Tryd.results18]
            go_simp
          · repeat (with_reducible refine Below.setCell ?_ (by simp) _)
            exact HBL.out
set_option maxRecDepth 100000 in
set_option maxHeartbeats 8000000 in
theorem grade_good (x : StV) (g d : Int) (w : World) (ht : TabG w) (h : gradeE x g d = 0) :
    Calls Tryd.prog 18 #[x.v, .int .i64 g, .int .i64 d] w fun e w' => e = .returned (.tuple #[(gradedV x g d).v, .int .i64 0]) ∧ Below w.heap.size w w' := by
  have HCK := Lib.hid (fun W => checkState_any x W)
  have HIG := Lib.hid (fun W => isGrade_p g W)
  have HID := Lib.hid (fun W => isDay_p d W)
  obtain ⟨hs, hg1, hg4, hd0, hd1, hlt⟩ := gradeE_ok h
  have HGR := Lib.hid (fun W hW => graded_any x g d W hW (stE_ok hs).1 hlt hd0 hd1 hg1 hg4)
  have HT := Lib.hid ht
  rw [gradedV_v] at HGR ⊢
  rw [hs] at HCK
  rw [pFrom_true ⟨hg1, hg4⟩] at HIG
  rw [pFrom_true ⟨hd0, hd1⟩] at HID
  have hlt : ¬ d < x.la := by omega
  clear h hs hg1 hg4 ht
  generalize (gradedV x g d).st = S' at *
  generalize (gradedV x g d).ea = E' at *
  generalize (gradedV x g d).du = D' at *
  generalize (gradedV x g d).ti = T' at *
  generalize (gradedV x g d).lp = L' at *
  obtain ⟨b, n, s, ea, du, la, ti, lp, bu⟩ := x
  unfold StV.v StV.cells at *
  dsimp only at *
  have hb0 := ((Below.refl w.heap.size w).alloc (Nat.le_refl _) (.cells #[.int .i64 b, .int .i64 n, .int .i64 s, .int .i64 ea, .int .i64 du, .int .i64 la, .int .i64 ti, .int .i64 lp, .int .i64 bu] 23)).alloc (by simp) (.cells #[.int .i64 0, .int .i64 0, .int .i64 0, .int .i64 0, .int .i64 0, .int .i64 0, .int .i64 0, .int .i64 0, .int .i64 0] 23)
  go_enter Tryd.func18, Tryd.ntmps18
  go_wp2_with fail
  refine (HCK.out _).mono ?_
  rintro e1 w1 ⟨rfl, hb1⟩
  have HB1 := Lib.hid (hb0.trans (hb1.mono (by simp; omega)))
  have hx1 : w1.heap[w.heap.size]? = some (.cells #[.int .i64 b, .int .i64 n, .int .i64 s, .int .i64 ea, .int .i64 du, .int .i64 la, .int .i64 ti, .int .i64 lp, .int .i64 bu] 23 (0, 0)) := (hb1.block _ (by simp; omega)).trans ((Below.heap_alloc _ _ _ (by simp)).trans (heap_alloc_new w _))
  have hx2 : w1.heap[w.heap.size + 1]? = some (.cells #[.int .i64 0, .int .i64 0, .int .i64 0, .int .i64 0, .int .i64 0, .int .i64 0, .int .i64 0, .int .i64 0, .int .i64 0] 23 (0, 0)) := (hb1.block _ (by simp)).trans (by have := heap_alloc_new (w.alloc (.cells #[.int .i64 b, .int .i64 n, .int .i64 s, .int .i64 ea, .int .i64 du, .int .i64 la, .int .i64 ti, .int .i64 lp, .int .i64 bu] 23)) (.cells #[.int .i64 0, .int .i64 0, .int .i64 0, .int .i64 0, .int .i64 0, .int .i64 0, .int .i64 0, .int .i64 0, .int .i64 0] 23); simpa using this)
  have HX2 := Lib.hid hx2
  clear hb0 hb1
  obtain ⟨y0, y1, y2, y3, y4, y5, y6, y7, y8⟩ := st_nine hx1
  obtain ⟨z0, z1, z2, z3, z4, z5, z6, z7, z8⟩ := st_nine hx2
  obtain ⟨g0, g1, g2, g3, g4, g5, g6, g7, g8⟩ := st_nofrost hx2
  clear hx1 hx2
  have hT1 := Lib.hid (HT.out.below HB1.out)
  go_wp2_with fail
  refine (HIG.out _).mono ?_
  rintro e2 w2 ⟨rfl, rfl⟩
  go_wp2_with fail
  refine (HID.out _).mono ?_
  rintro e2 w2 ⟨rfl, rfl⟩
  go_wp2_with fail
  refine (HGR.out _ hT1.out).mono ?_
  rintro e3 w3 ⟨rfl, hb3⟩
  have hx3 := (hb3.block _ (lt_of_block HX2.out)).trans HX2.out
  have HBL := Lib.hid (HB1.out.trans (hb3.mono HB1.out.size))
  clear hb3 y0 y1 y2 y3 y4 y5 y6 y7 y8 z0 z1 z2 z3 z4 z5 z6 z7 z8 g0 g1 g2 g3 g4 g5 g6 g7 g8
  obtain ⟨z0, z1, z2, z3, z4, z5, z6, z7, z8⟩ := st_nine hx3
  obtain ⟨g0, g1, g2, g3, g4, g5, g6, g7, g8⟩ := st_nofrost hx3
  clear hx3
  go_wp2_with fail
  refine bodyPost_ret (v := .tuple #[.agg #[.int .i64 b, .int .i64 n, .int .i64 S', .int .i64 E', .int .i64 D', .int .i64 d, .int .i64 T', .int .i64 L', .int .i64 (-1)], .int .i64 0]) ?_ rfl ⟨rfl, ?_⟩
  · simp only [results, Tryd.results18]
    go_simp
  · repeat (with_reducible refine Below.setCell ?_ (by simp) _)
    exact HBL.out
theorem grade_any (x : StV) (g d : Int) (w : World) (ht : TabG w) :
    Calls Tryd.prog 18 #[x.v, .int .i64 g, .int .i64 d] w fun e w' => e = .returned (.tuple #[(gradeV x g d).v, .int .i64 (gradeE x g d)]) ∧ Below w.heap.size w w' := by
  by_cases h : gradeE x g d = 0
  · rw [gradeV_good h, h]
    exact grade_good x g d w ht h
  · rw [gradeV_bad h]
    exact grade_bad x g d w h
end Go.Proofs.YtnellkdiafglgaaDoor
