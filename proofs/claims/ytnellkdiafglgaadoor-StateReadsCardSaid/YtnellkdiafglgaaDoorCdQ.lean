/- Cards: New, NewOf, the id of a review. -/
import Derived.Test.YtnellkdiafglgaaDoorCdK
import Derived.Test.YtnellkdiafglgaaDoorCdP
namespace Go.Proofs.YtnellkdiafglgaaDoor
open Go.RowKit Go.Shelf

def newV (b n : Int) : StV := if stE (StV.fresh b n) = 0 then StV.fresh b n else StV.zero
set_option maxHeartbeats 400000 in
theorem rvId_any (x : RvV) (w : World) : Calls Tryd.prog 51 #[.agg #[.int .i64 x.bl, .int .i64 x.no, .int .i64 x.gr, .int .i64 x.dy]] w fun e w' => e = .returned (.agg #[.int .i64 x.bl, .int .i64 x.no]) ∧ Below w.heap.size w w' := by
  obtain ⟨b, n, g, d⟩ := x
  dsimp only
  go_enter Tryd.func51, Tryd.ntmps51
  go_wp2_with fail
  exact bodyPost_ret (v := .agg #[.int .i64 b, .int .i64 n]) (by simp [results, Tryd.results51, go_sem]) rfl ⟨rfl, ((Below.refl _ _).alloc (Nat.le_refl _) _).alloc (by simp) _⟩
set_option maxRecDepth 100000 in
set_option maxHeartbeats 4000000 in
theorem new_any (b n : Int) (w : World) : Calls Tryd.prog 12 #[.int .i64 b, .int .i64 n] w fun e w' => e = .returned (.tuple #[(newV b n).v, .int .i64 (stE (StV.fresh b n))]) ∧ Below w.heap.size w w' := by
  have HC := Lib.hid (fun W => checkState_any (StV.fresh b n) W)
  have HF := Lib.hid (fun W => fresh_any b n W)
  obtain ⟨N, hN⟩ : ∃ N, N = newV b n := ⟨_, rfl⟩
  rw [← hN]
  have hNE : N = if stE (StV.fresh b n) = 0 then StV.fresh b n else StV.zero := hN
  obtain ⟨E, hE⟩ : ∃ E, E = stE (StV.fresh b n) := ⟨_, rfl⟩
  rw [← hE] at HC hNE ⊢
  clear hN hE
  have hfv : (StV.fresh b n).v = .agg #[.int .i64 b, .int .i64 n, .int .i64 0, .int .i64 250, .int .i64 (-1), .int .i64 (-1), .int .i64 0, .int .i64 0, .int .i64 (-1)] := rfl
  rw [hfv] at HC HF
  have hb0 := (Below.refl w.heap.size w).alloc (Nat.le_refl _) (.cells #[.int .i64 0, .int .i64 0, .int .i64 0, .int .i64 0, .int .i64 0, .int .i64 0, .int .i64 0, .int .i64 0, .int .i64 0] 23)
  have hr0 := heap_alloc_new w (.cells #[.int .i64 0, .int .i64 0, .int .i64 0, .int .i64 0, .int .i64 0, .int .i64 0, .int .i64 0, .int .i64 0, .int .i64 0] 23)
  have HB0 := Lib.hid hb0
  have HR0 := Lib.hid hr0
  clear hb0 hr0 hfv
  by_cases h : E = 0
  case' pos =>
    subst h
    have hV : N.v = .agg #[.int .i64 b, .int .i64 n, .int .i64 0, .int .i64 250, .int .i64 (-1), .int .i64 (-1), .int .i64 0, .int .i64 0, .int .i64 (-1)] := by rw [hNE, if_pos rfl]; rfl
  case' neg =>
    have hV : N.v = .agg #[.int .i64 0, .int .i64 0, .int .i64 0, .int .i64 0, .int .i64 0, .int .i64 0, .int .i64 0, .int .i64 0, .int .i64 0] := by rw [hNE, if_neg h]; rfl
    have h' : (E != 0) = true := bne_iff_ne.2 h
  all_goals
    rw [hV]
    clear hV hNE
    try clear h
    go_enter Tryd.func12, Tryd.ntmps12
    go_wp2_with fail
    refine (HF.out _).mono ?_
    rintro e1 w1 ⟨rfl, hb1⟩
    have HB1 := Lib.hid (HB0.out.trans (hb1.mono HB0.out.size))
    have HR1 := Lib.hid ((hb1.block _ (lt_of_block HR0.out)).trans HR0.out)
    clear hb1
    go_wp2_with fail
    have HB1b := Lib.hid (HB1.out.alloc HB1.out.size (.cells #[.int .i64 b, .int .i64 n, .int .i64 0, .int .i64 250, .int .i64 (-1), .int .i64 (-1), .int .i64 0, .int .i64 0, .int .i64 (-1)] 23))
    have HR1b := Lib.hid ((Below.heap_alloc w1 (.cells #[.int .i64 b, .int .i64 n, .int .i64 0, .int .i64 250, .int .i64 (-1), .int .i64 (-1), .int .i64 0, .int .i64 0, .int .i64 (-1)] 23) _ (lt_of_block HR1.out)).trans HR1.out)
    have HX1 := Lib.hid (heap_alloc_new w1 (.cells #[.int .i64 b, .int .i64 n, .int .i64 0, .int .i64 250, .int .i64 (-1), .int .i64 (-1), .int .i64 0, .int .i64 0, .int .i64 (-1)] 23))
    have hlt := lt_of_block HR1.out
    refine (HC.out _).mono ?_
    rintro e2 w2 ⟨rfl, hb2⟩
    have HB2 := Lib.hid (HB1b.out.trans (hb2.mono HB1b.out.size))
    have hr2 := (hb2.block _ (lt_of_block HR1b.out)).trans HR1b.out
    have hx2 := (hb2.block _ (lt_of_block HX1.out)).trans HX1.out
    clear hb2
    obtain ⟨z0, z1, z2, z3, z4, z5, z6, z7, z8⟩ := st_nine hr2
    obtain ⟨g0, g1, g2, g3, g4, g5, g6, g7, g8⟩ := st_nofrost hr2
    obtain ⟨y0, y1, y2, y3, y4, y5, y6, y7, y8⟩ := st_nine hx2
    clear hr2 hx2
    go_wp2_with fail
  · refine bodyPost_ret (v := .tuple #[.agg #[.int .i64 0, .int .i64 0, .int .i64 0, .int .i64 0, .int .i64 0, .int .i64 0, .int .i64 0, .int .i64 0, .int .i64 0], .int .i64 E]) ?_ rfl ⟨rfl, ?_⟩
    · simp only [results, Tryd.results12]
      go_simp
    · repeat (with_reducible refine Below.setCell ?_ (by simp) _)
      exact HB2.out
  · refine bodyPost_ret (v := .tuple #[.agg #[.int .i64 b, .int .i64 n, .int .i64 0, .int .i64 250, .int .i64 (-1), .int .i64 (-1), .int .i64 0, .int .i64 0, .int .i64 (-1)], .int .i64 0]) ?_ rfl ⟨rfl, ?_⟩
    · simp only [results, Tryd.results12]
      go_simp
    · repeat (with_reducible refine Below.setCell ?_ (by simp) _)
      exact HB2.out
set_option maxRecDepth 100000 in
set_option maxHeartbeats 4000000 in
theorem newOf_any (b n : Int) (w : World) : Calls Tryd.prog 13 #[.int .i64 b, .int .i64 n] w fun e w' => e = .returned (.tuple #[(newV b n).v, .int .i64 (stE (StV.fresh b n))]) ∧ Below w.heap.size w w' := by
  have HC := Lib.hid (fun W => stateFault_any (StV.fresh b n) W)
  have HF := Lib.hid (fun W => fresh_any b n W)
  obtain ⟨N, hN⟩ : ∃ N, N = newV b n := ⟨_, rfl⟩
  rw [← hN]
  have hNE : N = if stE (StV.fresh b n) = 0 then StV.fresh b n else StV.zero := hN
  obtain ⟨E, hE⟩ : ∃ E, E = stE (StV.fresh b n) := ⟨_, rfl⟩
  rw [← hE] at HC hNE ⊢
  clear hN hE
  have hfv : (StV.fresh b n).v = .agg #[.int .i64 b, .int .i64 n, .int .i64 0, .int .i64 250, .int .i64 (-1), .int .i64 (-1), .int .i64 0, .int .i64 0, .int .i64 (-1)] := rfl
  rw [hfv] at HC HF
  have hb0 := (Below.refl w.heap.size w).alloc (Nat.le_refl _) (.cells #[.int .i64 0, .int .i64 0, .int .i64 0, .int .i64 0, .int .i64 0, .int .i64 0, .int .i64 0, .int .i64 0, .int .i64 0] 23)
  have hr0 := heap_alloc_new w (.cells #[.int .i64 0, .int .i64 0, .int .i64 0, .int .i64 0, .int .i64 0, .int .i64 0, .int .i64 0, .int .i64 0, .int .i64 0] 23)
  have HB0 := Lib.hid hb0
  have HR0 := Lib.hid hr0
  clear hb0 hr0 hfv
  by_cases h : E = 0
  case' pos =>
    subst h
    have hV : N.v = .agg #[.int .i64 b, .int .i64 n, .int .i64 0, .int .i64 250, .int .i64 (-1), .int .i64 (-1), .int .i64 0, .int .i64 0, .int .i64 (-1)] := by rw [hNE, if_pos rfl]; rfl
  case' neg =>
    have hV : N.v = .agg #[.int .i64 0, .int .i64 0, .int .i64 0, .int .i64 0, .int .i64 0, .int .i64 0, .int .i64 0, .int .i64 0, .int .i64 0] := by rw [hNE, if_neg h]; rfl
    have h' : (E != 0) = true := bne_iff_ne.2 h
  all_goals
    rw [hV]
    clear hV hNE
    try clear h
    go_enter Tryd.func13, Tryd.ntmps13
    go_wp2_with fail
    have HB1b := Lib.hid (HB0.out.alloc HB0.out.size (.cells #[.int .i64 b, .int .i64 n, .int .i64 0, .int .i64 250, .int .i64 (-1), .int .i64 (-1), .int .i64 0, .int .i64 0, .int .i64 (-1)] 23))
    have HR1b := Lib.hid ((Below.heap_alloc _ (.cells #[.int .i64 b, .int .i64 n, .int .i64 0, .int .i64 250, .int .i64 (-1), .int .i64 (-1), .int .i64 0, .int .i64 0, .int .i64 (-1)] 23) _ (lt_of_block HR0.out)).trans HR0.out)
    have HX1 := Lib.hid (heap_alloc_new (w.alloc (.cells #[.int .i64 0, .int .i64 0, .int .i64 0, .int .i64 0, .int .i64 0, .int .i64 0, .int .i64 0, .int .i64 0, .int .i64 0] 23)) (.cells #[.int .i64 b, .int .i64 n, .int .i64 0, .int .i64 250, .int .i64 (-1), .int .i64 (-1), .int .i64 0, .int .i64 0, .int .i64 (-1)] 23))
    refine (HC.out _).mono ?_
    rintro e2 w2 ⟨rfl, hb2⟩
    have HB2 := Lib.hid (HB1b.out.trans (hb2.mono HB1b.out.size))
    have hr2 := (hb2.block _ (lt_of_block HR1b.out)).trans HR1b.out
    have hx2 : w2.heap[w.heap.size + 1]? = some (.cells #[.int .i64 b, .int .i64 n, .int .i64 0, .int .i64 250, .int .i64 (-1), .int .i64 (-1), .int .i64 0, .int .i64 0, .int .i64 (-1)] 23 (0, 0)) := by have := (hb2.block _ (lt_of_block HX1.out)).trans HX1.out; simpa using this
    clear hb2
    obtain ⟨z0, z1, z2, z3, z4, z5, z6, z7, z8⟩ := st_nine hr2
    obtain ⟨g0, g1, g2, g3, g4, g5, g6, g7, g8⟩ := st_nofrost hr2
    obtain ⟨y0, y1, y2, y3, y4, y5, y6, y7, y8⟩ := st_nine hx2
    clear hr2 hx2
    go_wp2_with fail
  · refine bodyPost_ret (v := .tuple #[.agg #[.int .i64 0, .int .i64 0, .int .i64 0, .int .i64 0, .int .i64 0, .int .i64 0, .int .i64 0, .int .i64 0, .int .i64 0], .int .i64 E]) ?_ rfl ⟨rfl, ?_⟩
    · simp only [results, Tryd.results13]
      go_simp
    · repeat (with_reducible refine Below.setCell ?_ (by simp) _)
      exact HB2.out
  · refine bodyPost_ret (v := .tuple #[.agg #[.int .i64 b, .int .i64 n, .int .i64 0, .int .i64 250, .int .i64 (-1), .int .i64 (-1), .int .i64 0, .int .i64 0, .int .i64 (-1)], .int .i64 0]) ?_ rfl ⟨rfl, ?_⟩
    · simp only [results, Tryd.results13]
      go_simp
    · repeat (with_reducible refine Below.setCell ?_ (by simp) _)
      exact HB2.out
end Go.Proofs.YtnellkdiafglgaaDoor
