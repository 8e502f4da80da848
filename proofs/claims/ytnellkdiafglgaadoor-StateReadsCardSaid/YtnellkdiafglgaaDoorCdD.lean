/- Cards: isOfForm, CheckState of the program. -/
import Derived.Test.YtnellkdiafglgaaDoorCdC
import Derived.RegionTactic
import Derived.BigRegion
import Derived.ChangeAlike
import Derived.BigQuiet
namespace Go.Proofs.YtnellkdiafglgaaDoor
open Go.RowKit

theorem st_nine {w : World} {k : Nat} {b n s ea du la ti lp bu : Int} {t : TypeId} {fr : Nat × Nat} (h : w.heap[k]? = some (.cells #[.int .i64 b, .int .i64 n, .int .i64 s, .int .i64 ea, .int .i64 du, .int .i64 la, .int .i64 ti, .int .i64 lp, .int .i64 bu] t fr)) :
    w.cell? ⟨k, 0, none⟩ = some (.int .i64 b) ∧ w.cell? ⟨k, 1, none⟩ = some (.int .i64 n) ∧ w.cell? ⟨k, 2, none⟩ = some (.int .i64 s) ∧ w.cell? ⟨k, 3, none⟩ = some (.int .i64 ea) ∧ w.cell? ⟨k, 4, none⟩ = some (.int .i64 du) ∧ w.cell? ⟨k, 5, none⟩ = some (.int .i64 la) ∧ w.cell? ⟨k, 6, none⟩ = some (.int .i64 ti) ∧ w.cell? ⟨k, 7, none⟩ = some (.int .i64 lp) ∧ w.cell? ⟨k, 8, none⟩ = some (.int .i64 bu) :=
  ⟨cell_of_row w k 0 _ _ fr h, cell_of_row w k 1 _ _ fr h, cell_of_row w k 2 _ _ fr h, cell_of_row w k 3 _ _ fr h, cell_of_row w k 4 _ _ fr h, cell_of_row w k 5 _ _ fr h, cell_of_row w k 6 _ _ fr h, cell_of_row w k 7 _ _ fr h, cell_of_row w k 8 _ _ fr h⟩
theorem ofForm_asked {x : StV} (h : 0 < x.ti) : ofForm x ↔ x.la ≠ -1 ∧ x.la ≤ x.du ∧ x.lp ≤ x.ti := by
  unfold ofForm
  rw [if_neg (by omega)]
theorem ofForm_never {x : StV} (h : x.ti = 0) : ofForm x ↔ x.st = 0 ∧ x.du = -1 ∧ x.la = -1 ∧ x.lp = 0 := by
  unfold ofForm
  rw [if_pos h]
set_option maxRecDepth 100000 in
set_option maxHeartbeats 4000000 in
theorem isOfForm_any (x : StV) (w : World) (h0 : 0 ≤ x.ti) : Calls Tryd.prog 40 #[x.v] w fun e w' => e = .returned (.bool (decide (ofForm x))) ∧ Below w.heap.size w w' := by
  have HA := Lib.hid (fun h => ofForm_asked (x := x) h)
  have HN := Lib.hid (fun h => ofForm_never (x := x) h)
  obtain ⟨R, hR⟩ : ∃ R, R = decide (ofForm x) := ⟨_, rfl⟩
  have HR := Lib.hid hR
  rw [← hR]
  clear hR
  have HWA := Lib.hid (fun W => wasAsked_any x W)
  have HID := Lib.hid (fun W => stId_any x W)
  have HFR := Lib.hid (fun W => fresh_any x.bl x.no W)
  obtain ⟨b, n, s, ea, du, la, ti, lp, bu⟩ := x
  unfold StV.fresh StV.v StV.cells at *
  dsimp only at *
  rcases (by omega : ti = 0 ∨ 0 < ti) with rfl | hti
  case inl =>
    go_enter Tryd.func40, Tryd.ntmps40
    go_wp2_with fail
    refine (HWA.out _).mono ?_
    rintro e1 w1 ⟨rfl, hb1⟩
    have HB1 := Lib.hid (((Below.refl _ w).alloc (Nat.le_refl _) _).trans (hb1.mono (by simp)))
    have HC1 : Hid (w1.heap[w.heap.size]? = some (.cells #[.int .i64 b, .int .i64 n, .int .i64 s, .int .i64 ea, .int .i64 du, .int .i64 la, .int .i64 0, .int .i64 lp, .int .i64 bu] 23 (0, 0))) := Lib.hid ((hb1.block _ (by simp)).trans (heap_alloc_new w _))
    clear hb1
    obtain ⟨y0, y1, y2, y3, y4, y5, y6, y7, y8⟩ := st_nine HC1.out
    go_wp2_with fail
    refine (HID.out _).mono ?_
    rintro e2 w2 ⟨rfl, hb2⟩
    have HC2 : Hid (w2.heap[w.heap.size]? = some (.cells #[.int .i64 b, .int .i64 n, .int .i64 s, .int .i64 ea, .int .i64 du, .int .i64 la, .int .i64 0, .int .i64 lp, .int .i64 bu] 23 (0, 0))) := Lib.hid ((hb2.block _ (by have := HB1.out.size; have := lt_of_block HC1.out; omega)).trans HC1.out)
    have HB2 := Lib.hid (HB1.out.trans (hb2.mono HB1.out.size))
    clear hb2 y0 y1 y2 y3 y4 y5 y6 y7 y8 HC1 HB1
    go_wp2_with fail
    refine (HFR.out _).mono ?_
    rintro e3 w3 ⟨rfl, hb3⟩
    have HC3 : Hid (w3.heap[w.heap.size]? = some (.cells #[.int .i64 b, .int .i64 n, .int .i64 s, .int .i64 ea, .int .i64 du, .int .i64 la, .int .i64 0, .int .i64 lp, .int .i64 bu] 23 (0, 0))) := Lib.hid ((hb3.block _ (by have := HB2.out.size; have := lt_of_block HC2.out; omega)).trans HC2.out)
    have HB3 := Lib.hid (HB2.out.trans (hb3.mono HB2.out.size))
    have hlt := lt_of_block HC3.out
    clear hb3 HC2 HB2
    obtain ⟨y0, y1, y2, y3, y4, y5, y6, y7, y8⟩ := st_nine HC3.out
    go_wp2_with fail
    go_region
    have HRN : Hid (R = decide (s = 0 ∧ du = -1 ∧ la = -1 ∧ lp = 0)) := Lib.hid (by rw [HR.out]; exact decide_eq_decide.2 (HN.out (by first | rfl | trivial)))
    have HB4 := Lib.hid ((HB3.out.alloc HB3.out.size (.cells #[.int .i64 b, .int .i64 n, .int .i64 0, .int .i64 ea, .int .i64 (-1), .int .i64 (-1), .int .i64 0, .int .i64 0, .int .i64 bu] 23)).drew)
    clear HR HA HN
    go_wp2_with fail
    all_goals
      go_ret
      exact ⟨ret_boolR (by rw [HRN.out]; simp [*]), HB4.out⟩
  case inr =>
    go_enter Tryd.func40, Tryd.ntmps40
    go_wp2_with fail
    refine (HWA.out _).mono ?_
    rintro e1 w1 ⟨rfl, hb1⟩
    have HB1 := Lib.hid (((Below.refl _ w).alloc (Nat.le_refl _) _).trans (hb1.mono (by simp)))
    have HC1 : Hid (w1.heap[w.heap.size]? = some (.cells #[.int .i64 b, .int .i64 n, .int .i64 s, .int .i64 ea, .int .i64 du, .int .i64 la, .int .i64 ti, .int .i64 lp, .int .i64 bu] 23 (0, 0))) := Lib.hid ((hb1.block _ (by simp)).trans (heap_alloc_new w _))
    clear hb1
    obtain ⟨y0, y1, y2, y3, y4, y5, y6, y7, y8⟩ := st_nine HC1.out
    have HRE : Hid (R = decide (la ≠ -1 ∧ la ≤ du ∧ lp ≤ ti)) := Lib.hid (by rw [HR.out]; exact decide_eq_decide.2 (HA.out hti))
    clear HR HA HN
    by_cases h1 : la = -1
    case pos =>
      have h1' : (la != -1) = false := by rw [bne_eq_false_iff_eq]; exact h1
      have HF : Hid (R = false) := Lib.hid (by rw [HRE.out]; exact decide_eq_false (fun h => h.1 h1))
      clear h1
      go_wp2_with fail
      go_ret
      exact ⟨ret_boolR HF.out.symm, HB1.out⟩
    case neg =>
      have h1' : (la != -1) = true := bne_iff_ne.2 h1
      by_cases h2 : la ≤ du
      case neg =>
        have HF : Hid (R = false) := Lib.hid (by rw [HRE.out]; exact decide_eq_false (fun h => h2 h.2.1))
        clear h1
        go_wp2_with fail
        go_ret
        exact ⟨ret_boolR HF.out.symm, HB1.out⟩
      case pos =>
        by_cases h3 : lp ≤ ti
        all_goals
          have HF : Hid (R = decide (lp ≤ ti)) := Lib.hid (by rw [HRE.out]; exact decide_eq_decide.2 ⟨fun h => h.2.2, fun h => ⟨h1, h2, h⟩⟩)
          clear h1
          go_wp2_with fail
          go_ret
          exact ⟨ret_boolR (by first | (rw [HF.out]; done) | (rw [HF.out]; simp; done) | (rw [HF.out]; simp; omega)), HB1.out⟩
set_option maxRecDepth 100000 in
set_option maxHeartbeats 4000000 in
theorem checkState_any (x : StV) (w : World) : Calls Tryd.prog 14 #[x.v] w fun e w' => e = .returned (.int .i64 (stE x)) ∧ Below w.heap.size w w' := by
  have HI := Lib.hid (fun W => isInRange_any x W)
  have HO := Lib.hid (fun W h => isOfForm_any x W h)
  obtain ⟨R, hR⟩ : ∃ R, R = stE x := ⟨_, rfl⟩
  rw [← hR]
  by_cases h1 : inRng x
  case neg =>
    have HR : Hid (R = 2) := Lib.hid (by rw [hR, stE_2 h1])
    rw [decide_eq_false h1] at HI
    clear hR h1 HO
    obtain ⟨b, n, s, ea, du, la, ti, lp, bu⟩ := x
    unfold StV.v StV.cells at *
    dsimp only at *
    go_enter Tryd.func14, Tryd.ntmps14
    go_wp2_with fail
    refine (HI.out _).mono ?_
    rintro e1 w1 ⟨rfl, hb1⟩
    have HB1 := Lib.hid (((Below.refl _ w).alloc (Nat.le_refl _) _).trans (hb1.mono (by simp)))
    clear hb1
    go_wp2_with fail
    go_ret
    exact ⟨ret_intR HR.out.symm, HB1.out⟩
  case pos =>
    rw [decide_eq_true h1] at HI
    have HO := Lib.hid (fun W => HO.out W h1.2.2.2.2.2.2.1.1)
    by_cases h2 : ofForm x
    case' neg =>
      have HR : Hid (R = 1) := Lib.hid (by rw [hR, stE_1 h1 h2])
      rw [decide_eq_false h2] at HO
    case' pos =>
      have HR : Hid (R = 0) := Lib.hid (by rw [hR, stE_0 h1 h2])
      rw [decide_eq_true h2] at HO
    all_goals
      clear hR h1 h2
      obtain ⟨b, n, s, ea, du, la, ti, lp, bu⟩ := x
      unfold StV.v StV.cells at *
      dsimp only at *
      go_enter Tryd.func14, Tryd.ntmps14
      go_wp2_with fail
      refine (HI.out _).mono ?_
      rintro e1 w1 ⟨rfl, hb1⟩
      have HB1 := Lib.hid (((Below.refl _ w).alloc (Nat.le_refl _) _).trans (hb1.mono (by simp)))
      have HC1 : Hid (w1.heap[w.heap.size]? = some (.cells #[.int .i64 b, .int .i64 n, .int .i64 s, .int .i64 ea, .int .i64 du, .int .i64 la, .int .i64 ti, .int .i64 lp, .int .i64 bu] 23 (0, 0))) := Lib.hid ((hb1.block _ (by simp)).trans (heap_alloc_new w _))
      clear hb1
      obtain ⟨y0, y1, y2, y3, y4, y5, y6, y7, y8⟩ := st_nine HC1.out
      go_wp2_with fail
      refine (HO.out _).mono ?_
      rintro e2 w2 ⟨rfl, hb2⟩
      have HB2 := Lib.hid (HB1.out.trans (hb2.mono HB1.out.size))
      clear hb2 y0 y1 y2 y3 y4 y5 y6 y7 y8 HC1
      go_wp2_with fail
      go_ret
      exact ⟨by rw [HR.out] <;> rfl, HB2.out⟩
end Go.Proofs.YtnellkdiafglgaaDoor
