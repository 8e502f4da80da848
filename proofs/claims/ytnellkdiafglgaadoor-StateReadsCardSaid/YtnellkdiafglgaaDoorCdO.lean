/- Cards: states that came in; the tables of grades. -/
import Derived.Test.YtnellkdiafglgaaDoorCdG
import Derived.WalkKit
import Derived.ProofKit
import Derived.OpenShut
import Derived.ChangeOld
import Derived.Below
import Derived.SizedLaws
import Derived.Lib.SmallJoins
import Derived.Lib.LaidTab
import Derived.Deep.Slices
import Derived.Deep.Fields
import Derived.LaidMore
import Derived.Stop.Joined
import Derived.Stop.LaidErr
namespace Go.Proofs.YtnellkdiafglgaaDoor
open Go.ChangeShapes Go.WideShapes Go.ChangeAt Go.RowKit Go.Joins

theorem st_ccells : Tryd.prog.cellsOf 23 = 9 := by kernel_rfl
theorem st_fields : ∃ f0 f1 f2 f3 f4 f5 f6 f7 f8 : Field, Tryd.prog.underlying 23 = some (.struct #[f0, f1, f2, f3, f4, f5, f6, f7, f8]) ∧ Deep.oneCellFields Tryd.prog #[f0, f1, f2, f3, f4, f5, f6, f7, f8] = true ∧ f0.type = 3 ∧ f1.type = 3 ∧ f2.type = 3 ∧ f3.type = 3 ∧ f4.type = 3 ∧ f5.type = 3 ∧ f6.type = 3 ∧ f7.type = 3 ∧ f8.type = 3 :=
  ⟨_, _, _, _, _, _, _, _, _, Tryd.underlying23, by kernel_rfl, rfl, rfl, rfl, rfl, rfl, rfl, rfl, rfl, rfl⟩
set_option maxRecDepth 100000 in
/-- A state that came in. -/
theorem state_came {H : Type} {enc : TypeId × Value → H} {W : World} {sp : Nat → Bool} {hd : Bool} {r : Reach} {b0 : Nat} {v : Value} {d : DataW H} {p : List MemPlace}
    (hv : Value.okWide Tryd.prog W r b0 23 v) (h : DataW.Trod enc Tryd.prog W 0 sp hd 23 v d p) : ∃ x : StV, v = x.v := by
  obtain ⟨f0, f1, f2, f3, f4, f5, f6, f7, f8, hS, hone, q0, q1, q2, q3, q4, q5, q6, q7, q8⟩ := st_fields
  obtain ⟨cs, rfl, hsz⟩ := okWide_struct hS hv
  obtain ⟨fuel, hf⟩ := h
  obtain ⟨ys, n, -, hx, hlen, hyl, hfield⟩ := DataW.trod_struct hS hf
  rw [st_ccells] at hsz
  obtain ⟨c0, c1, c2, c3, c4, c5, c6, c7, c8, rfl⟩ : ∃ c0 c1 c2 c3 c4 c5 c6 c7 c8, cs = #[c0, c1, c2, c3, c4, c5, c6, c7, c8] := by
    obtain ⟨l⟩ := cs
    match l, hsz with
    | [c0, c1, c2, c3, c4, c5, c6, c7, c8], _ => exact ⟨c0, c1, c2, c3, c4, c5, c6, c7, c8, rfl⟩
  obtain ⟨y0, y1, y2, y3, y4, y5, y6, y7, y8, rfl⟩ : ∃ y0 y1 y2 y3 y4 y5 y6 y7 y8, ys = [y0, y1, y2, y3, y4, y5, y6, y7, y8] := by
    match ys, hyl with
    | [c0, c1, c2, c3, c4, c5, c6, c7, c8], _ => exact ⟨c0, c1, c2, c3, c4, c5, c6, c7, c8, rfl⟩
  obtain ⟨o0, k0⟩ := Deep.hone_of hone 0 f0 rfl
  have ht0 := hfield 0 f0 rfl
  rw [o0, k0, q0] at ht0
  obtain ⟨o1, k1⟩ := Deep.hone_of hone 1 f1 rfl
  have ht1 := hfield 1 f1 rfl
  rw [o1, k1, q1] at ht1
  obtain ⟨o2, k2⟩ := Deep.hone_of hone 2 f2 rfl
  have ht2 := hfield 2 f2 rfl
  rw [o2, k2, q2] at ht2
  obtain ⟨o3, k3⟩ := Deep.hone_of hone 3 f3 rfl
  have ht3 := hfield 3 f3 rfl
  rw [o3, k3, q3] at ht3
  obtain ⟨o4, k4⟩ := Deep.hone_of hone 4 f4 rfl
  have ht4 := hfield 4 f4 rfl
  rw [o4, k4, q4] at ht4
  obtain ⟨o5, k5⟩ := Deep.hone_of hone 5 f5 rfl
  have ht5 := hfield 5 f5 rfl
  rw [o5, k5, q5] at ht5
  obtain ⟨o6, k6⟩ := Deep.hone_of hone 6 f6 rfl
  have ht6 := hfield 6 f6 rfl
  rw [o6, k6, q6] at ht6
  obtain ⟨o7, k7⟩ := Deep.hone_of hone 7 f7 rfl
  have ht7 := hfield 7 f7 rfl
  rw [o7, k7, q7] at ht7
  obtain ⟨o8, k8⟩ := Deep.hone_of hone 8 f8 rfl
  have ht8 := hfield 8 f8 rfl
  rw [o8, k8, q8] at ht8
  simp only [Value.cells, List.drop, List.take, List.getElem?_cons_zero, List.getElem?_cons_succ] at ht0 ht1 ht2 ht3 ht4 ht5 ht6 ht7 ht8
  obtain ⟨z0, e0, -, _⟩ := DataW.trod_int Tryd.underlying3 ht0
  obtain ⟨z1, e1, -, _⟩ := DataW.trod_int Tryd.underlying3 ht1
  obtain ⟨z2, e2, -, _⟩ := DataW.trod_int Tryd.underlying3 ht2
  obtain ⟨z3, e3, -, _⟩ := DataW.trod_int Tryd.underlying3 ht3
  obtain ⟨z4, e4, -, _⟩ := DataW.trod_int Tryd.underlying3 ht4
  obtain ⟨z5, e5, -, _⟩ := DataW.trod_int Tryd.underlying3 ht5
  obtain ⟨z6, e6, -, _⟩ := DataW.trod_int Tryd.underlying3 ht6
  obtain ⟨z7, e7, -, _⟩ := DataW.trod_int Tryd.underlying3 ht7
  obtain ⟨z8, e8, -, _⟩ := DataW.trod_int Tryd.underlying3 ht8
  simp at e0 e1 e2 e3 e4 e5 e6 e7 e8
  subst e0 e1 e2 e3 e4 e5 e6 e7 e8
  exact ⟨⟨z0, z1, z2, z3, z4, z5, z6, z7, z8⟩, rfl⟩
theorem cg_cellsInt : Tryd.prog.cellsOf 3 = 1 := by kernel_rfl
theorem cg_cellsFive : Tryd.prog.cellsOf 95 = 5 := by kernel_rfl
theorem cg_stepG : Tryd.prog.globalNamed "florilegium/card.firstSteps" = some 1 := by kernel_rfl
theorem cg_stepT : (Tryd.prog.globals[1]?).map (·.type) = some 95 := by kernel_rfl
theorem cg_easeG : Tryd.prog.globalNamed "florilegium/card.easeChanges" = some 0 := by kernel_rfl
theorem cg_easeT : (Tryd.prog.globals[0]?).map (·.type) = some 95 := by kernel_rfl
/-- The two tables as the row lists them. -/
theorem cg_tabs {W : World} {r : List (String × DataW Unit)} (h : laidMet Tryd.prog (("florilegium/card.firstSteps", Rows.laid_florilegium_card_firstSteps) :: ("florilegium/card.easeChanges", Rows.laid_florilegium_card_easeChanges) :: r) W) : TabG W := by
  have hT := Lib.tabIs_of_head (k := .i64) (zs := stepT) cg_stepG cg_stepT Tryd.underlying95 Tryd.underlying3 cg_cellsInt cg_cellsFive h
  have hE := Lib.tabIs_of_head (k := .i64) (zs := easeT) cg_easeG cg_easeT Tryd.underlying95 Tryd.underlying3 cg_cellsInt cg_cellsFive (laidMet.tail h)
  exact ⟨fun i hi => hT.cell cg_stepG i hi, fun i hi => hE.cell cg_easeG i hi⟩
end Go.Proofs.YtnellkdiafglgaaDoor
