/- Cards: awakeCard; the four dues rise; IsSorted of four numbers. -/
import Derived.Test.YtnellkdiafglgaaDoorCdY
namespace Go.Proofs.YtnellkdiafglgaaDoor
open Go.RowKit Go.Shelf Go.Joins

set_option maxRecDepth 100000 in
theorem awakeCard_any (w : World) : Calls Tryd.prog 31 #[] w fun e w' => e = .returned (.bool true) ∧ Below w.heap.size w w' := by
  have HN := Lib.hid (fun W => new_any 0 0 W)
  have e1 : stE (StV.fresh 0 0) = 2 := by decide
  have e2 : (newV 0 0).v = StV.zero.v := by unfold newV; rw [e1]; rfl
  rw [e1, e2, zero_v] at HN
  clear e1 e2
  go_enter Tryd.func31, Tryd.ntmps31
  go_wp2_with fail
  refine (HN.out _).mono ?_
  rintro e1 w1 ⟨rfl, hb1⟩
  have HB1 := Lib.hid (hb1.alloc hb1.size (.cells #[.int .i64 0, .int .i64 0, .int .i64 0, .int .i64 0, .int .i64 0, .int .i64 0, .int .i64 0, .int .i64 0, .int .i64 0] 23))
  clear hb1
  go_wp2_with fail
  go_ret
  exact ⟨rfl, HB1.out⟩
theorem step_mono {x : StV} {d : Int} (h : inRng x) : 0 ≤ stepOf x 1 d ∧ stepOf x 1 d ≤ stepOf x 2 d ∧ stepOf x 2 d ≤ stepOf x 3 d ∧ stepOf x 3 d ≤ stepOf x 4 d ∧ stepOf x 1 d ≤ 1 ∧ 1 ≤ stepOf x 2 d := by
  have hb := step_bd (d := d) h
  have h1 : stepOf x 1 d = 0 := by unfold stepOf; simp
  have h2 : stepOf x 2 d = hardOf x d := by unfold stepOf; simp
  have h3 : stepOf x 3 d = goodOf x d := by unfold stepOf; simp
  have h4 : stepOf x 4 d = easyOf x d := by unfold stepOf; simp
  rw [h1, h2, h3, h4]
  have k1 : hardOf x d ≤ goodOf x d := by
    unfold goodOf
    by_cases h0 : x.st = 0
    · rw [if_pos h0]; unfold hardOf; rw [if_pos h0]; omega
    · rw [if_neg h0]; omega
  have k2 : goodOf x d ≤ easyOf x d := by
    unfold easyOf
    by_cases h0 : x.st = 0
    · rw [if_pos h0]; unfold goodOf; rw [if_pos h0]; omega
    · rw [if_neg h0]; omega
  omega
theorem due_mono {x : StV} {d : Int} (h : inRng x) : (gradedV x 1 d).du ≤ (gradedV x 2 d).du ∧ (gradedV x 2 d).du ≤ (gradedV x 3 d).du ∧ (gradedV x 3 d).du ≤ (gradedV x 4 d).du := by
  have hm := step_mono (d := d) h
  have e1 := (gradedV_eqs x 1 d).2.2.1
  have e2 := (gradedV_eqs x 2 d).2.2.1
  have e3 := (gradedV_eqs x 3 d).2.2.1
  have e4 := (gradedV_eqs x 4 d).2.2.1
  rw [e1, e2, e3, e4]
  omega
set_option maxRecDepth 100000 in
set_option maxHeartbeats 4000000 in
theorem sorted_four (g c : Nat) (d1 d2 d3 d4 : Int) (w : World) (h1 : d1 ≤ d2) (h2 : d2 ≤ d3) (h3 : d3 ≤ d4) (c0 : w.cell? ⟨g, 0, none⟩ = some (.int .i64 d1)) (c1 : w.cell? ⟨g, 1, none⟩ = some (.int .i64 d2)) (c2 : w.cell? ⟨g, 2, none⟩ = some (.int .i64 d3)) (c3 : w.cell? ⟨g, 3, none⟩ = some (.int .i64 d4)) :
    Calls Tryd.prog 32 #[.slice (some ⟨g, 0, none⟩) 4 c] w fun e w' => e = .returned (.bool true) ∧ ∃ q, w' = w.drewN q := by
  have HL := Lib.hid (fun (x y : Int) (W : World) (h : y ≤ x) => by
    have := Tryd.cmp_Less_int2 x y W
    rw [decide_eq_false (by omega : ¬ x < y)] at this
    exact this)
  have K1 := Lib.hid h1
  have K2 := Lib.hid h2
  have K3 := Lib.hid h3
  have C0 := Lib.hid c0
  have C1 := Lib.hid c1
  have C2 := Lib.hid c2
  have C3 := Lib.hid c3
  clear h1 h2 h3 c0 c1 c2 c3
  go_enter Tryd.func32, Tryd.ntmps32
  go_wp2_with fail
  go_loopw [3] (fun i wr => ∃ (k q : Nat), i = .int .i64 k ∧ k ≤ 3 ∧ Hid (wr = w.drewN q)) (fun i _ => (intOf i).toNat)
  case atStart => exact ⟨3, 0, rfl, by omega, Lib.hid rfl⟩
  case round =>
    obtain ⟨k, q, rfl, hk, HW⟩ := hrel
    have cq : ∀ p v, w.cell? p = some v → wr.cell? p = some v := fun p v h => by rw [HW.out]; exact h
    have r0 := cq _ _ C0.out
    have r1 := cq _ _ C1.out
    have r2 := cq _ _ C2.out
    have r3 := cq _ _ C3.out
    clear cq
    rcases (by omega : k = 0 ∨ k = 1 ∨ k = 2 ∨ k = 3) with rfl | rfl | rfl | rfl
    · go_wp2_with fail
      go_ret
      exact ⟨rfl, q, HW.out⟩
    · go_wp2_with fail
      go_quiet ((go_at_call 56; exact Calls.quiet_of_same (HL.out _ _ _ K1.out)))
      have HW2 : Hid (wr.drewN nq = w.drewN (q + nq)) := Lib.hid (by rw [HW.out]; simp [World.drewN, Nat.add_assoc])
      go_wp2_with fail
      go_roundw
      case rel => exact ⟨0, _, rfl, by omega, HW2⟩
      case measure => simp [intOf]
    · go_wp2_with fail
      go_quiet ((go_at_call 56; exact Calls.quiet_of_same (HL.out _ _ _ K2.out)))
      have HW2 : Hid (wr.drewN nq = w.drewN (q + nq)) := Lib.hid (by rw [HW.out]; simp [World.drewN, Nat.add_assoc])
      go_wp2_with fail
      go_roundw
      case rel => exact ⟨1, _, rfl, by omega, HW2⟩
      case measure => simp [intOf]
    · go_wp2_with fail
      go_quiet ((go_at_call 56; exact Calls.quiet_of_same (HL.out _ _ _ K3.out)))
      have HW2 : Hid (wr.drewN nq = w.drewN (q + nq)) := Lib.hid (by rw [HW.out]; simp [World.drewN, Nat.add_assoc])
      go_wp2_with fail
      go_roundw
      case rel => exact ⟨2, _, rfl, by omega, HW2⟩
      case measure => simp [intOf]
end Go.Proofs.YtnellkdiafglgaaDoor
