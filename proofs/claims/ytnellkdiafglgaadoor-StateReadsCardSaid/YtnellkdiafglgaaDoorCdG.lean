/- Cards: Grade of the program. -/
import Derived.Test.YtnellkdiafglgaaDoorCdF
import Derived.IntWalk
import Derived.Deep.DeepCutAuto
namespace Go.Proofs.YtnellkdiafglgaaDoor
open Go.RowKit Go.Shelf

/-- The two tables of grades lie where they were laid. -/
def stepT : List Int := [0, 0, 1, 2, 4]
def easeT : List Int := [0, -20, -15, 0, 15]
structure TabG (w : World) : Prop where
  st : ∀ i : Nat, i < 5 → w.cell? ⟨1, i, none⟩ = some (.int .i64 (stepT.getD i 0))
  ea : ∀ i : Nat, i < 5 → w.cell? ⟨0, i, none⟩ = some (.int .i64 (easeT.getD i 0))
theorem TabG.below {w w' : World} (h : TabG w) (hb : Below w.heap.size w w') : TabG w' :=
  ⟨fun i hi => by
    have hc := h.st i hi
    exact (hb.cell (p := ⟨1, i, none⟩) (World.block_lt_of_cell? w _ hc)).trans hc,
   fun i hi => by
    have hc := h.ea i hi
    exact (hb.cell (p := ⟨0, i, none⟩) (World.block_lt_of_cell? w _ hc)).trans hc⟩
theorem tOf_bd {x : StV} {d : Int} (h : inRng x) : x.st ≤ tOf x d ∧ tOf x d ≤ 3680 ∧ tOf x d = min (max (d - x.la) x.st) (x.st + 30) := by
  unfold inRng at h
  unfold tOf
  omega
theorem mul_bd {a b m n : Int} (h0 : 0 ≤ a) (h1 : a ≤ m) (h2 : 0 ≤ b) (h3 : b ≤ n) : 0 ≤ a * b ∧ a * b ≤ m * n :=
  ⟨Int.mul_nonneg h0 h2, Int.mul_le_mul h1 h3 h2 (by omega)⟩
set_option maxRecDepth 100000 in
set_option maxHeartbeats 4000000 in
theorem stepsOn_any (x : StV) (d : Int) (w : World) (ht : TabG w) (h : inRng x) (h1 : x.la ≤ d) (h2 : d ≤ 100000) :
    Calls Tryd.prog 69 #[x.v, .int .i64 d] w fun e w' => e = .returned (.agg #[.int .i64 0, .int .i64 0, .int .i64 (hardOf x d), .int .i64 (goodOf x d), .int .i64 (easyOf x d)]) ∧ Below w.heap.size w w' := by
  obtain ⟨t1, t2, t3⟩ := tOf_bd (d := d) h
  have hH : Hid (hardOf x d = if x.st = 0 then 1 else max (x.st + 1) (12 * tOf x d / 10)) := Lib.hid rfl
  have hG : Hid (goodOf x d = if x.st = 0 then 2 else max (hardOf x d + 1) (x.ea * tOf x d / 100)) := Lib.hid rfl
  have hE : Hid (easyOf x d = if x.st = 0 then 4 else max (goodOf x d + 1) (13 * x.ea * tOf x d / 1000)) := Lib.hid rfl
  have hr := h
  unfold inRng at hr
  have m1 := mul_bd (a := x.ea) (b := tOf x d) (m := 400) (n := 3680) (by omega) (by omega) (by omega) (by omega)
  have m2 := mul_bd (a := 13 * x.ea) (b := tOf x d) (m := 5200) (n := 3680) (by omega) (by omega) (by omega) (by omega)
  have hs0 : 0 ≤ x.st := hr.2.2.1.1
  have hs1 : x.st ≤ 3650 := hr.2.2.1.2
  have he0 : 130 ≤ x.ea := hr.2.2.2.1.1
  have he1 : x.ea ≤ 400 := hr.2.2.2.1.2
  have hla : -1 ≤ x.la := hr.2.2.2.2.2.1.1
  generalize hardOf x d = hd at *
  generalize goodOf x d = gd at *
  generalize easyOf x d = es at *
  generalize tOf x d = t at *
  clear hr h
  have T3 := Lib.hid t3
  clear t3
  obtain ⟨b, n, s, ea, du, la, ti, lp, bu⟩ := x
  unfold StV.v StV.cells at *
  dsimp only at *
  rcases (by omega : s = 0 ∨ 0 < s) with rfl | hs
  case inl =>
    have q0 := ht.st 0 (by omega)
    have q1 := ht.st 1 (by omega)
    have q2 := ht.st 2 (by omega)
    have q3 := ht.st 3 (by omega)
    have q4 := ht.st 4 (by omega)
    have hb1 : 1 < w.heap.size := World.block_lt_of_cell? w _ q0
    simp only [stepT, List.getD_cons_zero, List.getD_cons_succ] at q0 q1 q2 q3 q4
    have past : ∀ (j : Nat) (v : Value), w.cell? ⟨1, j, none⟩ = some v → ∀ o o' : Obj, ((w.alloc o).alloc o').cell? ⟨1, j, none⟩ = some v := fun j v h o o' =>
      ((((Below.refl w.heap.size w).alloc (Nat.le_refl _) o).alloc (by simp) o').cell (p := ⟨1, j, none⟩) hb1).trans h
    have r0 := past _ _ q0
    have r1 := past _ _ q1
    have r2 := past _ _ q2
    have r3 := past _ _ q3
    have r4 := past _ _ q4
    clear past q0 q1 q2 q3 q4 hb1
    clear ht
    have HF : Hid (hd = 1 ∧ gd = 2 ∧ es = 4) := Lib.hid ⟨by rw [hH.out, if_pos rfl], by rw [hG.out, if_pos rfl], by rw [hE.out, if_pos rfl]⟩
    clear hH hG hE
    go_enter Tryd.func69, Tryd.ntmps69
    go_wp2_with fail
    obtain ⟨rfl, rfl, rfl⟩ := HF.out
    exact bodyPost_ret (v := .agg #[.int .i64 0, .int .i64 0, .int .i64 1, .int .i64 2, .int .i64 4]) (by simp [results, Tryd.results69, go_sem]) rfl ⟨rfl, ((Below.refl _ _).alloc (Nat.le_refl _) _).alloc (by simp) _⟩
  case inr =>
    have c1 : Hid (hd = max (s + 1) (12 * t / 10)) := Lib.hid (by rw [hH.out, if_neg (by omega)])
    have c2 : Hid (gd = max (hd + 1) (ea * t / 100)) := Lib.hid (by rw [hG.out, if_neg (by omega)])
    have c3 : Hid (es = max (gd + 1) (13 * ea * t / 1000)) := Lib.hid (by rw [hE.out, if_neg (by omega)])
    have b1 : 1 ≤ hd ∧ hd ≤ 4416 := by rw [c1.out]; omega
    have b2 : 1 ≤ gd ∧ gd ≤ 14720 := by rw [c2.out]; omega
    clear ht hH hG hE
    go_enter Tryd.func69, Tryd.ntmps69
    go_upto_region 3 with fail
    go_cut [5] (fun v wx => v = .int .i64 t ∧ wx = (w.alloc (.cells #[.int .i64 b, .int .i64 n, .int .i64 s, .int .i64 ea, .int .i64 du, .int .i64 la, .int .i64 ti, .int .i64 lp, .int .i64 bu] 23)).alloc (.cells #[.int .i64 0, .int .i64 0, .int .i64 0, .int .i64 0, .int .i64 0] 95))
    case first =>
      go_wp2_with fail
      all_goals
        go_meet
        exact ⟨congrArg (Value.int .i64) (by rw [T3.out]; omega), rfl⟩
    case rest =>
      obtain ⟨rfl, rfl⟩ := hcut
      go_upto_region 4 with fail
      go_cut [6] (fun v wx => v = .int .i64 hd ∧ wx = (w.alloc (.cells #[.int .i64 b, .int .i64 n, .int .i64 s, .int .i64 ea, .int .i64 du, .int .i64 la, .int .i64 ti, .int .i64 lp, .int .i64 bu] 23)).alloc (.cells #[.int .i64 0, .int .i64 0, .int .i64 0, .int .i64 0, .int .i64 0] 95))
      case first =>
        go_wp2_with fail
        all_goals
          go_meet
          exact ⟨congrArg (Value.int .i64) (by rw [c1.out]; omega), rfl⟩
      case rest =>
        obtain ⟨rfl, rfl⟩ := hcut
        go_upto_region 5 with fail
        go_cut [7] (fun v wx => v = .int .i64 gd ∧ wx = (w.alloc (.cells #[.int .i64 b, .int .i64 n, .int .i64 s, .int .i64 ea, .int .i64 du, .int .i64 la, .int .i64 ti, .int .i64 lp, .int .i64 bu] 23)).alloc (.cells #[.int .i64 0, .int .i64 0, .int .i64 0, .int .i64 0, .int .i64 0] 95))
        case first =>
          go_wp2_with fail
          all_goals
            go_meet
            exact ⟨congrArg (Value.int .i64) (by rw [c2.out]; omega), rfl⟩
        case rest =>
          obtain ⟨rfl, rfl⟩ := hcut
          go_upto_region 6 with fail
          go_cut [8] (fun v wx => v = .int .i64 es ∧ wx = (w.alloc (.cells #[.int .i64 b, .int .i64 n, .int .i64 s, .int .i64 ea, .int .i64 du, .int .i64 la, .int .i64 ti, .int .i64 lp, .int .i64 bu] 23)).alloc (.cells #[.int .i64 0, .int .i64 0, .int .i64 0, .int .i64 0, .int .i64 0] 95))
          case first =>
            go_wp2_with fail
            all_goals
              go_meet
              exact ⟨congrArg (Value.int .i64) (by rw [c3.out]; omega), rfl⟩
          case rest =>
            obtain ⟨rfl, rfl⟩ := hcut
            go_wp2_with fail
            exact bodyPost_ret (v := .agg #[.int .i64 0, .int .i64 0, .int .i64 hd, .int .i64 gd, .int .i64 es]) (by simp [results, Tryd.results69, go_sem]) rfl ⟨rfl, ((Below.refl _ _).alloc (Nat.le_refl _) _).alloc (by simp) _⟩
end Go.Proofs.YtnellkdiafglgaaDoor
