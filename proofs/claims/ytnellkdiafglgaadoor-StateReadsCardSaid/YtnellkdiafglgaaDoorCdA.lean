/- Cards in plain numbers: what CheckState and Grade say. -/
import Derived.Test.YtnellkdiafglgaaDoorRows
import Derived.WalkKit
import Derived.Lib.Hide
import Derived.Below
namespace Go.Proofs.YtnellkdiafglgaaDoor
open Go.RowKit

theorem ret_boolR {a b : Bool} (h : a = b) : Ending.returned (.bool a) = .returned (.bool b) := by rw [h]
theorem ret_intR {a b : Int} (h : a = b) : Ending.returned (.int .i64 a) = .returned (.int .i64 b) := by rw [h]
/-- A state. -/
structure StV where
  bl : Int
  no : Int
  st : Int
  ea : Int
  du : Int
  la : Int
  ti : Int
  lp : Int
  bu : Int
def StV.cells (x : StV) : Array Value := #[.int .i64 x.bl, .int .i64 x.no, .int .i64 x.st, .int .i64 x.ea, .int .i64 x.du, .int .i64 x.la, .int .i64 x.ti, .int .i64 x.lp, .int .i64 x.bu]
def StV.v (x : StV) : Value := .agg x.cells
def StV.zero : StV := ⟨0, 0, 0, 0, 0, 0, 0, 0, 0⟩
def StV.fresh (b n : Int) : StV := ⟨b, n, 0, 250, -1, -1, 0, 0, -1⟩
def inRng (x : StV) : Prop :=
  (1 ≤ x.bl ∧ x.bl ≤ 1000000) ∧ (1 ≤ x.no ∧ x.no ≤ 20) ∧ (0 ≤ x.st ∧ x.st ≤ 3650) ∧ (130 ≤ x.ea ∧ x.ea ≤ 400) ∧ (-1 ≤ x.du ∧ x.du ≤ 100000) ∧ (-1 ≤ x.la ∧ x.la ≤ 100000) ∧ (0 ≤ x.ti ∧ x.ti ≤ 20000) ∧ (0 ≤ x.lp ∧ x.lp ≤ 20000) ∧ (-1 ≤ x.bu ∧ x.bu ≤ 100000)
instance (x : StV) : Decidable (inRng x) := by unfold inRng; infer_instance
def ofForm (x : StV) : Prop := if x.ti = 0 then x.st = 0 ∧ x.du = -1 ∧ x.la = -1 ∧ x.lp = 0 else x.la ≠ -1 ∧ x.la ≤ x.du ∧ x.lp ≤ x.ti
instance (x : StV) : Decidable (ofForm x) := by unfold ofForm; infer_instance
/-- What CheckState says. -/
def stE (x : StV) : Int := if inRng x then if ofForm x then 0 else 1 else 2
theorem stE_0 {x : StV} (h : inRng x) (h2 : ofForm x) : stE x = 0 := by unfold stE; rw [if_pos h, if_pos h2]
theorem stE_1 {x : StV} (h : inRng x) (h2 : ¬ ofForm x) : stE x = 1 := by unfold stE; rw [if_pos h, if_neg h2]
theorem stE_2 {x : StV} (h : ¬ inRng x) : stE x = 2 := by unfold stE; rw [if_neg h]
theorem stE_ok {x : StV} (h : stE x = 0) : inRng x ∧ ofForm x := by
  unfold stE at h
  split at h
  · split at h
    · exact ⟨‹_›, ‹_›⟩
    · omega
  · omega
theorem stE_cases (x : StV) : stE x = 0 ∨ stE x = 1 ∨ stE x = 2 := by
  unfold stE
  split
  · split
    · exact .inl rfl
    · exact .inr (.inl rfl)
  · exact .inr (.inr rfl)
/-! ### Steps -/
def tOf (x : StV) (d : Int) : Int := max (min (d - x.la) (x.st + 30)) x.st
def hardOf (x : StV) (d : Int) : Int := if x.st = 0 then 1 else max (x.st + 1) (12 * tOf x d / 10)
def goodOf (x : StV) (d : Int) : Int := if x.st = 0 then 2 else max (hardOf x d + 1) (x.ea * tOf x d / 100)
def easyOf (x : StV) (d : Int) : Int := if x.st = 0 then 4 else max (goodOf x d + 1) (13 * x.ea * tOf x d / 1000)
def stepOf (x : StV) (g d : Int) : Int := if g = 1 then 0 else if g = 2 then hardOf x d else if g = 3 then goodOf x d else easyOf x d
def easeBy (g : Int) : Int := if g = 1 then -20 else 15 * (g - 3)
def keepIn (a b n : Int) : Int := min (max n a) b
/-- What Grade makes of a right state. -/
def gradedV (x : StV) (g d : Int) : StV :=
  ⟨x.bl, x.no, min (stepOf x g d) 3650, keepIn 130 400 (x.ea + easeBy g), min (d + max (min (stepOf x g d) 3650) 1) 100000, d, min (x.ti + 1) 20000, if g = 1 ∧ 0 < x.st then min (x.lp + 1) 20000 else x.lp, -1⟩
def gradeE (x : StV) (g d : Int) : Int :=
  if stE x ≠ 0 then stE x else if g < 1 ∨ 4 < g then 10 else if d < 0 ∨ 100000 < d then 2 else if d < x.la then 5 else 0
def gradeV (x : StV) (g d : Int) : StV := if gradeE x g d = 0 then gradedV x g d else StV.zero
theorem gradeE_ok {x : StV} {g d : Int} (h : gradeE x g d = 0) : stE x = 0 ∧ 1 ≤ g ∧ g ≤ 4 ∧ 0 ≤ d ∧ d ≤ 100000 ∧ x.la ≤ d := by
  unfold gradeE at h
  split at h
  · exact absurd h ‹_›
  · split at h
    · omega
    · split at h
      · omega
      · split at h <;> omega
theorem hard_bd {x : StV} {d : Int} (h : inRng x) : 1 ≤ hardOf x d ∧ x.st < hardOf x d ∧ hardOf x d ≤ 4416 := by
  unfold inRng at h
  unfold hardOf tOf
  split <;> omega
/-- A state after a grade is right. -/
theorem graded_right {x : StV} {g d : Int} (h : gradeE x g d = 0) : stE (gradedV x g d) = 0 := by
  obtain ⟨h0, h1, h2, h3, h4, h5⟩ := gradeE_ok h
  obtain ⟨hr, hf⟩ := stE_ok h0
  have hs : 0 ≤ stepOf x g d := by
    have hb := (hard_bd (d := d) hr)
    have hg : 1 ≤ goodOf x d := by unfold goodOf; split <;> omega
    have he : 1 ≤ easyOf x d := by unfold easyOf; split <;> omega
    unfold stepOf
    split
    · omega
    · split
      · omega
      · split <;> omega
  unfold inRng at hr
  unfold ofForm at hf
  refine stE_0 ?_ ?_
  · unfold inRng gradedV keepIn
    dsimp only
    refine ⟨hr.1, hr.2.1, by omega, by omega, by omega, by omega, by omega, ?_, by omega⟩
    split <;> omega
  · unfold ofForm gradedV
    dsimp only
    rw [if_neg (by omega)]
    refine ⟨by omega, by omega, ?_⟩
    split at hf
    · split <;> omega
    · split <;> omega
end Go.Proofs.YtnellkdiafglgaaDoor
