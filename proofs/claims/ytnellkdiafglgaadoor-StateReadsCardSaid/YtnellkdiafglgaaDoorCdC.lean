/- Cards: isInRange, isOfForm, CheckState of the program. -/
import Derived.Test.YtnellkdiafglgaaDoorCdB
namespace Go.Proofs.YtnellkdiafglgaaDoor
open Go.RowKit

theorem lt_of_block {w : World} {k : Nat} {o : Obj} (h : w.heap[k]? = some o) : k < w.heap.size := (Array.getElem?_eq_some_iff.1 h).1
def dayOf (x : StV) (k : Nat) : Int := if k = 0 then x.du else if k = 1 then x.la else x.bu
theorem inRng_days {x : StV} (h : inRng x) (k : Nat) : okD (dayOf x k) := by
  unfold inRng at h
  unfold okD dayOf
  split
  · omega
  · split <;> omega
def restB (x : StV) : Bool := idRight x.bl x.no && pFrom x.st 0 3650 && pFrom x.ea 130 400 && pFrom x.ti 0 20000 && pFrom x.lp 0 20000
theorem inRng_iff (x : StV) : inRng x ↔ (okD x.du ∧ okD x.la ∧ okD x.bu) ∧ restB x = true := by
  unfold inRng restB idRight pFrom okD
  simp only [Bool.and_eq_true, decide_eq_true_eq]
  omega
set_option maxRecDepth 100000 in
set_option maxHeartbeats 4000000 in
theorem isInRange_any (x : StV) (w : World) : Calls Tryd.prog 39 #[x.v] w fun e w' => e = .returned (.bool (decide (inRng x))) ∧ Below w.heap.size w w' := by
  have HI := Lib.hid (inRng_iff x)
  have HREST : Hid (restB x = (idRight x.bl x.no && pFrom x.st 0 3650 && pFrom x.ea 130 400 && pFrom x.ti 0 20000 && pFrom x.lp 0 20000)) := Lib.hid rfl
  obtain ⟨R, hR⟩ : ∃ R, R = decide (inRng x) := ⟨_, rfl⟩
  have HR := Lib.hid hR
  rw [← hR]
  clear hR
  have HID := Lib.hid (fun W => stId_any x W)
  have HRT := Lib.hid (fun W => isRight_any x.bl x.no W)
  have HF1 := Lib.hid (fun W => isFrom_p x.st 0 3650 W)
  have HF2 := Lib.hid (fun W => isFrom_p x.ea 130 400 W)
  have HF3 := Lib.hid (fun W => isFrom_p x.ti 0 20000 W)
  have HF4 := Lib.hid (fun W => isFrom_p x.lp 0 20000 W)
  have HD := Lib.hid (fun n W => isDay_p n W)
  have i0 : ∀ (a b c : Value) (w : World), (Instr.index 74 (.agg #[a, b, c]) (.int .i64 0)).run Tryd.prog w = .ok a w := fun _ _ _ _ => by kernel_rfl
  have i1 : ∀ (a b c : Value) (w : World), (Instr.index 74 (.agg #[a, b, c]) (.int .i64 1)).run Tryd.prog w = .ok b w := fun _ _ _ _ => by kernel_rfl
  have i2 : ∀ (a b c : Value) (w : World), (Instr.index 74 (.agg #[a, b, c]) (.int .i64 2)).run Tryd.prog w = .ok c w := fun _ _ _ _ => by kernel_rfl
  obtain ⟨b, n, s, ea, du, la, ti, lp, bu⟩ := x
  unfold StV.v StV.cells at *
  dsimp only at *
  go_enter Tryd.func39, Tryd.ntmps39
  go_wp2_with fail
  go_loop [12] (fun i => ∃ k : Nat, i = .int .i64 k ∧ k ≤ 3 ∧ Hid (∀ j, j < k → okD (dayOf ⟨b, n, s, ea, du, la, ti, lp, bu⟩ j))) (fun i => 3 - (intOf i).toNat)
  case atStart => exact ⟨0, rfl, by omega, Lib.hid (fun j h => absurd h (Nat.not_lt_zero _))⟩
  case round =>
    obtain ⟨k, rfl, hk, HK⟩ := hrel
    have HKS : ∀ d, okD d → dayOf ⟨b, n, s, ea, du, la, ti, lp, bu⟩ k = d → Hid (∀ j, j < k + 1 → okD (dayOf ⟨b, n, s, ea, du, la, ti, lp, bu⟩ j)) := fun d hd he => Lib.hid (fun j hj => by
      rcases (by omega : j < k ∨ j = k) with h | rfl
      · exact HK.out j h
      · rw [he]; exact hd)
    have HBAD : ∀ d, ¬ okD d → dayOf ⟨b, n, s, ea, du, la, ti, lp, bu⟩ k = d → Hid (R = false) := fun d hd he => Lib.hid (by
      rw [HR.out]
      exact decide_eq_false (fun h => hd (he ▸ inRng_days h k)))
    have HKS := Lib.hid HKS
    have HBAD := Lib.hid HBAD
    rcases (by omega : k = 0 ∨ k = 1 ∨ k = 2 ∨ k = 3) with rfl | rfl | rfl | rfl
    case inl =>
      rcases okD_cases du with ⟨h1, h2, h3⟩ | ⟨h1, h2⟩ | ⟨h1, h2, h3⟩
      · have HF := HBAD.out _ h1 rfl
        clear h1
        go_wp2_with (refine (HD.out _ _).mono ?_; rintro e1 w1 ⟨rfl, rfl⟩)
        go_ret
        exact ⟨by rw [HF.out]; rfl, (Below.refl _ _).alloc (Nat.le_refl _) _⟩
      all_goals
        have HF := HKS.out _ h1 rfl
        clear h1
        go_wp2_with (refine (HD.out _ _).mono ?_; rintro e1 w1 ⟨rfl, rfl⟩)
        go_round
        case rel => exact ⟨0 + 1, by go_num, by omega, HF⟩
        case measure => simp [intOf]
    case inr.inl =>
      rcases okD_cases la with ⟨h1, h2, h3⟩ | ⟨h1, h2⟩ | ⟨h1, h2, h3⟩
      · have HF := HBAD.out _ h1 rfl
        clear h1
        go_wp2_with (refine (HD.out _ _).mono ?_; rintro e1 w1 ⟨rfl, rfl⟩)
        go_ret
        exact ⟨by rw [HF.out]; rfl, (Below.refl _ _).alloc (Nat.le_refl _) _⟩
      all_goals
        have HF := HKS.out _ h1 rfl
        clear h1
        go_wp2_with (refine (HD.out _ _).mono ?_; rintro e1 w1 ⟨rfl, rfl⟩)
        go_round
        case rel => exact ⟨1 + 1, by go_num, by omega, HF⟩
        case measure => simp [intOf]
    case inr.inr.inl =>
      rcases okD_cases bu with ⟨h1, h2, h3⟩ | ⟨h1, h2⟩ | ⟨h1, h2, h3⟩
      · have HF := HBAD.out _ h1 rfl
        clear h1
        go_wp2_with (refine (HD.out _ _).mono ?_; rintro e1 w1 ⟨rfl, rfl⟩)
        go_ret
        exact ⟨by rw [HF.out]; rfl, (Below.refl _ _).alloc (Nat.le_refl _) _⟩
      all_goals
        have HF := HKS.out _ h1 rfl
        clear h1
        go_wp2_with (refine (HD.out _ _).mono ?_; rintro e1 w1 ⟨rfl, rfl⟩)
        go_round
        case rel => exact ⟨2 + 1, by go_num, by omega, HF⟩
        case measure => simp [intOf]
    case inr.inr.inr =>
      have HRE : Hid (R = (idRight b n && pFrom s 0 3650 && pFrom ea 130 400 && pFrom ti 0 20000 && pFrom lp 0 20000)) := Lib.hid (by
        rw [HR.out, ← HREST.out, Bool.eq_iff_iff, decide_eq_true_eq, HI.out]
        exact ⟨fun h => h.2, fun h => ⟨⟨HK.out 0 (by omega), HK.out 1 (by omega), HK.out 2 (by omega)⟩, h⟩⟩)
      clear HR HREST HI HK HKS HBAD
      go_wp2_with fail
      refine (HID.out _).mono ?_
      rintro e1 w1 ⟨rfl, hb1⟩
      have HB1 := Lib.hid (((Below.refl _ w).alloc (Nat.le_refl _) _).trans (hb1.mono (by simp)))
      have HC1 : Hid (w1.heap[w.heap.size]? = some (.cells #[.int .i64 b, .int .i64 n, .int .i64 s, .int .i64 ea, .int .i64 du, .int .i64 la, .int .i64 ti, .int .i64 lp, .int .i64 bu] 23 (0, 0))) := Lib.hid ((hb1.block _ (by simp)).trans (heap_alloc_new w _))
      clear hb1
      go_wp2_with fail
      refine (HRT.out _).mono ?_
      rintro e2 w2 ⟨rfl, hb2⟩
      have hbl := (hb2.block _ (by have := HB1.out.size; have := lt_of_block HC1.out; omega)).trans HC1.out
      have HB2 := Lib.hid (HB1.out.trans (hb2.mono HB1.out.size))
      clear hb2
      have y2 : w2.cell? ⟨w.heap.size, 2, none⟩ = some (.int .i64 s) := cell_of_row w2 _ 2 _ _ (0, 0) hbl
      have y3 : w2.cell? ⟨w.heap.size, 3, none⟩ = some (.int .i64 ea) := cell_of_row w2 _ 3 _ _ (0, 0) hbl
      have y6 : w2.cell? ⟨w.heap.size, 6, none⟩ = some (.int .i64 ti) := cell_of_row w2 _ 6 _ _ (0, 0) hbl
      have y7 : w2.cell? ⟨w.heap.size, 7, none⟩ = some (.int .i64 lp) := cell_of_row w2 _ 7 _ _ (0, 0) hbl
      clear hbl HB1 HC1
      generalize idRight b n = q0 at *
      generalize pFrom s 0 3650 = q1 at *
      generalize pFrom ea 130 400 = q2 at *
      generalize pFrom ti 0 20000 = q3 at *
      generalize pFrom lp 0 20000 = q4 at *
      rcases q0 with _ | _
      case' true => rcases q1 with _ | _
      case' true.true => rcases q2 with _ | _
      case' true.true.true => rcases q3 with _ | _
      all_goals
        go_wp2_with (first
          | (with_reducible refine (HF1.out _).mono ?_; rintro e3 w3 ⟨rfl, rfl⟩)
          | (with_reducible refine (HF2.out _).mono ?_; rintro e3 w3 ⟨rfl, rfl⟩)
          | (with_reducible refine (HF3.out _).mono ?_; rintro e3 w3 ⟨rfl, rfl⟩)
          | (with_reducible refine (HF4.out _).mono ?_; rintro e3 w3 ⟨rfl, rfl⟩))
        go_ret
        exact ⟨ret_boolR (by rw [HRE.out]; simp), HB2.out⟩
end Go.Proofs.YtnellkdiafglgaaDoor
