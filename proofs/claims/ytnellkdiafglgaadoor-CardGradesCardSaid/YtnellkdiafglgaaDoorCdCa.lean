/- Cards: which of two comes first. -/
import Derived.Test.YtnellkdiafglgaaDoorCdM
import Derived.Deep.RegionHeld3
import Derived.Deep.Cut
import Derived.Deep.DeepCutAuto
namespace Go.Proofs.YtnellkdiafglgaaDoor
open Go.RowKit Go.Shelf Go.Joins

def orI (a b : Int) : Int := if a = 0 then b else a
def cmp2 (b1 n1 b2 n2 : Int) : Int := orI (Lib.compareInt b1 b2) (Lib.compareInt n1 n2)
def OrI (a b : Int) (i : Value) : Prop := ∃ k : Nat, i = .int .i64 k ∧ k ≤ 2 ∧ (0 < k → a = 0) ∧ (1 < k → b = 0)
set_option maxRecDepth 100000 in
set_option maxHeartbeats 4000000 in
theorem or_two (g c : Nat) (a b : Int) (w : World) (c0 : w.cell? ⟨g, 0, none⟩ = some (.int .i64 a)) (c1 : w.cell? ⟨g, 1, none⟩ = some (.int .i64 b)) :
    Calls Tryd.prog 90 #[.slice (some ⟨g, 0, none⟩) 2 c] w fun e w' => e = .returned (.int .i64 (orI a b)) ∧ w' = w := by
  obtain ⟨R, hR⟩ : ∃ R, R = orI a b := ⟨_, rfl⟩
  rw [← hR]
  have HR : Hid (R = if a = 0 then b else a) := Lib.hid hR
  clear hR
  go_enter Tryd.func90, Tryd.ntmps90
  go_wp2_with fail
  go_loop [8] (fun i => Hid (OrI a b i)) (fun i => 2 - (intOf i).toNat)
  case atStart => exact Lib.hid ⟨0, rfl, by omega, fun h => absurd h (by omega), fun h => absurd h (by omega)⟩
  case round =>
    obtain ⟨k, rfl, hk, hA, hB⟩ := hrel.out
    have HA := Lib.hid hA
    have HB := Lib.hid hB
    clear hA hB
    rcases (by omega : k = 0 ∨ k = 1 ∨ k = 2) with rfl | rfl | rfl
    · by_cases ha : a = 0
      · subst ha
        go_wp2_with fail
        go_round
        case rel => exact Lib.hid ⟨1, rfl, by omega, fun _ => rfl, fun h => absurd h (by omega)⟩
        case measure => simp [intOf]
      · have ha' : (a != 0) = true := bne_iff_ne.2 ha
        have HF : Hid (R = a) := Lib.hid (by rw [HR.out, if_neg ha])
        clear ha
        go_wp2_with fail
        go_ret
        exact ⟨ret_intR HF.out.symm, rfl⟩
    · have ha := HA.out (by omega)
      subst ha
      by_cases hb : b = 0
      · subst hb
        go_wp2_with fail
        go_round
        case rel => exact Lib.hid ⟨2, rfl, by omega, fun _ => rfl, fun _ => rfl⟩
        case measure => simp [intOf]
      · have hb' : (b != 0) = true := bne_iff_ne.2 hb
        have HF : Hid (R = b) := Lib.hid (by rw [HR.out, if_pos rfl])
        clear hb
        go_wp2_with fail
        go_ret
        exact ⟨ret_intR HF.out.symm, rfl⟩
    · have HF : Hid (R = 0) := Lib.hid (by rw [HR.out, if_pos (HA.out (by omega))]; exact HB.out (by omega))
      go_wp2_with fail
      go_ret
      exact ⟨ret_intR HF.out.symm, rfl⟩
set_option maxRecDepth 100000 in
set_option maxHeartbeats 4000000 in
theorem compareIds_any (b1 n1 b2 n2 : Int) (w : World) : Calls Tryd.prog 89 #[.agg #[.int .i64 b1, .int .i64 n1], .agg #[.int .i64 b2, .int .i64 n2]] w fun e w' => e = .returned (.int .i64 (cmp2 b1 n1 b2 n2)) ∧ Below w.heap.size w w' := by
  obtain ⟨R, hR⟩ : ∃ R, R = cmp2 b1 n1 b2 n2 := ⟨_, rfl⟩
  rw [← hR]
  have HR : Hid (R = orI (Lib.compareInt b1 b2) (Lib.compareInt n1 n2)) := Lib.hid hR
  clear hR
  have HCA := Lib.hid (fun W => Tryd.cmp_Compare_int b1 b2 W)
  have HCB := Lib.hid (fun W => Tryd.cmp_Compare_int n1 n2 W)
  generalize Lib.compareInt b1 b2 = p at *
  generalize Lib.compareInt n1 n2 = q at *
  have hrow : (((w.alloc (.cells #[.int .i64 b1, .int .i64 n1] 66)).alloc (.cells #[.int .i64 b2, .int .i64 n2] 66)).alloc (.cells #[.int .i64 p, .int .i64 q] 3)).drew.heap[w.heap.size + 1 + 1]? = some (.cells #[.int .i64 p, .int .i64 q] 3 (0, 0)) := by
    have hsz : ((w.alloc (.cells #[.int .i64 b1, .int .i64 n1] 66)).alloc (.cells #[.int .i64 b2, .int .i64 n2] 66)).heap.size = w.heap.size + 1 + 1 := by simp
    rw [← hsz]
    exact heap_alloc_new _ _
  have HOR := Lib.hid (or_two (w.heap.size + 1 + 1) 2 p q (((w.alloc (.cells #[.int .i64 b1, .int .i64 n1] 66)).alloc (.cells #[.int .i64 b2, .int .i64 n2] 66)).alloc (.cells #[.int .i64 p, .int .i64 q] 3)).drew (cell_of_row _ _ 0 _ _ (0, 0) hrow) (cell_of_row _ _ 1 _ _ (0, 0) hrow))
  rw [← HR.out] at HOR
  have HBL : Hid (Below w.heap.size w (((w.alloc (.cells #[.int .i64 b1, .int .i64 n1] 66)).alloc (.cells #[.int .i64 b2, .int .i64 n2] 66)).alloc (.cells #[.int .i64 p, .int .i64 q] 3)).drew) := Lib.hid (((((Below.refl _ _).alloc (Nat.le_refl _) _).alloc (by simp) _).alloc (by simp; omega) _).drew)
  clear hrow
  go_enter Tryd.func89, Tryd.ntmps89
  go_wp2_with fail
  go_region_held3 (fun W => W.cell? ⟨w.heap.size, 0, none⟩ = some (.int .i64 b1) ∧ W.cell? ⟨w.heap.size, 1, none⟩ = some (.int .i64 n1) ∧ W.cell? ⟨w.heap.size + 1, 0, none⟩ = some (.int .i64 b2) ∧ W.cell? ⟨w.heap.size + 1, 1, none⟩ = some (.int .i64 n2))
    (first | go_keep)
    (first
      | (go_at_call 91; (first | (with_reducible refine (HCA.out _).mono ?_) | (with_reducible refine (HCB.out _).mono ?_)); rintro e3 w3 ⟨rfl, rfl⟩)
      | (go_at_call 90; refine HOR.out.mono ?_; rintro e4 w4 ⟨rfl, rfl⟩))
  go_wp2_with fail
  go_ret
  exact ⟨rfl, HBL.out⟩
set_option maxRecDepth 100000 in
set_option maxHeartbeats 4000000 in
theorem order_any (x y : StV) (w : World) : Calls Tryd.prog 71 #[.agg #[.int .i64 x.bl, .int .i64 x.no, .int .i64 x.st, .int .i64 x.ea, .int .i64 x.du, .int .i64 x.la, .int .i64 x.ti, .int .i64 x.lp, .int .i64 x.bu], .agg #[.int .i64 y.bl, .int .i64 y.no, .int .i64 y.st, .int .i64 y.ea, .int .i64 y.du, .int .i64 y.la, .int .i64 y.ti, .int .i64 y.lp, .int .i64 y.bu]] w fun e w' => e = .returned (.int .i64 (cmp2 x.bl x.no y.bl y.no)) ∧ Below w.heap.size w w' := by
  obtain ⟨R, hR⟩ : ∃ R, R = cmp2 x.bl x.no y.bl y.no := ⟨_, rfl⟩
  rw [← hR]
  have HR : Hid (R = orI (Lib.compareInt x.bl y.bl) (Lib.compareInt x.no y.no)) := Lib.hid hR
  clear hR
  have HCA := Lib.hid (fun W => Tryd.cmp_Compare_int x.bl y.bl W)
  have HCB := Lib.hid (fun W => Tryd.cmp_Compare_int x.no y.no W)
  generalize Lib.compareInt x.bl y.bl = p at *
  generalize Lib.compareInt x.no y.no = q at *
  have hrow : (((w.alloc (.cells #[.int .i64 x.bl, .int .i64 x.no, .int .i64 x.st, .int .i64 x.ea, .int .i64 x.du, .int .i64 x.la, .int .i64 x.ti, .int .i64 x.lp, .int .i64 x.bu] 23)).alloc (.cells #[.int .i64 y.bl, .int .i64 y.no, .int .i64 y.st, .int .i64 y.ea, .int .i64 y.du, .int .i64 y.la, .int .i64 y.ti, .int .i64 y.lp, .int .i64 y.bu] 23)).alloc (.cells #[.int .i64 p, .int .i64 q] 3)).drew.heap[w.heap.size + 1 + 1]? = some (.cells #[.int .i64 p, .int .i64 q] 3 (0, 0)) := by
    have hsz : ((w.alloc (.cells #[.int .i64 x.bl, .int .i64 x.no, .int .i64 x.st, .int .i64 x.ea, .int .i64 x.du, .int .i64 x.la, .int .i64 x.ti, .int .i64 x.lp, .int .i64 x.bu] 23)).alloc (.cells #[.int .i64 y.bl, .int .i64 y.no, .int .i64 y.st, .int .i64 y.ea, .int .i64 y.du, .int .i64 y.la, .int .i64 y.ti, .int .i64 y.lp, .int .i64 y.bu] 23)).heap.size = w.heap.size + 1 + 1 := by simp
    rw [← hsz]
    exact heap_alloc_new _ _
  have HOR := Lib.hid (or_two (w.heap.size + 1 + 1) 2 p q (((w.alloc (.cells #[.int .i64 x.bl, .int .i64 x.no, .int .i64 x.st, .int .i64 x.ea, .int .i64 x.du, .int .i64 x.la, .int .i64 x.ti, .int .i64 x.lp, .int .i64 x.bu] 23)).alloc (.cells #[.int .i64 y.bl, .int .i64 y.no, .int .i64 y.st, .int .i64 y.ea, .int .i64 y.du, .int .i64 y.la, .int .i64 y.ti, .int .i64 y.lp, .int .i64 y.bu] 23)).alloc (.cells #[.int .i64 p, .int .i64 q] 3)).drew (cell_of_row _ _ 0 _ _ (0, 0) hrow) (cell_of_row _ _ 1 _ _ (0, 0) hrow))
  rw [← HR.out] at HOR
  have HBL : Hid (Below w.heap.size w (((w.alloc (.cells #[.int .i64 x.bl, .int .i64 x.no, .int .i64 x.st, .int .i64 x.ea, .int .i64 x.du, .int .i64 x.la, .int .i64 x.ti, .int .i64 x.lp, .int .i64 x.bu] 23)).alloc (.cells #[.int .i64 y.bl, .int .i64 y.no, .int .i64 y.st, .int .i64 y.ea, .int .i64 y.du, .int .i64 y.la, .int .i64 y.ti, .int .i64 y.lp, .int .i64 y.bu] 23)).alloc (.cells #[.int .i64 p, .int .i64 q] 3)).drew) := Lib.hid (((((Below.refl _ _).alloc (Nat.le_refl _) _).alloc (by simp) _).alloc (by simp; omega) _).drew)
  clear hrow
  go_enter Tryd.func71, Tryd.ntmps71
  go_wp2_with fail
  go_region_held3 (fun W => W.cell? ⟨w.heap.size, 0, none⟩ = some (.int .i64 x.bl) ∧ W.cell? ⟨w.heap.size, 1, none⟩ = some (.int .i64 x.no) ∧ W.cell? ⟨w.heap.size + 1, 0, none⟩ = some (.int .i64 y.bl) ∧ W.cell? ⟨w.heap.size + 1, 1, none⟩ = some (.int .i64 y.no))
    (first | go_keep)
    (first
      | (go_at_call 91; (first | (with_reducible refine (HCA.out _).mono ?_) | (with_reducible refine (HCB.out _).mono ?_)); rintro e3 w3 ⟨rfl, rfl⟩)
      | (go_at_call 90; refine HOR.out.mono ?_; rintro e4 w4 ⟨rfl, rfl⟩))
  go_wp2_with fail
  go_ret
  exact ⟨rfl, HBL.out⟩
end Go.Proofs.YtnellkdiafglgaaDoor
