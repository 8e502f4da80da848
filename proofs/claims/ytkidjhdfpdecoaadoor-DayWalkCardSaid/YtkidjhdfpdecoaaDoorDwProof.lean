/- For every number d (whatever lies in memory, within the form's own reach, the table of the months' lengths as the program's text lays it), the law DayWalk returns true and leaves its argument as it was: days one after the other have dates one after the other, weeks have seven days. -/
import Derived.Test.YtkidjhdfpdecoaaDoorCalE
import Derived.Test.YtkidjhdfpdecoaaDoorCards
import Derived.Test.YtkidjhdfpdecoaaDoorTie
import Derived.WalkKit
import Derived.ProofKit
import Derived.OpenShut
import Derived.ChangeOld
import Derived.Below
import Derived.SizedLaws
import Derived.Lib.SmallJoins
import Derived.Lib.LaidTab
import Derived.MakeChecks
import Derived.Deep.DeepHandedRow
import Derived.Deep.DeepWitnessRowRef
import Derived.LaidMore
import Derived.Stop.Joined
namespace Go.Proofs.YtkidjhdfpdecoaaDoor
open Go.ChangeShapes Go.WideShapes Go.ChangeAt Go.RowKit Go.Joins

theorem dw_own : ownKnob Tryd.prog.godebug = none := by kernel_rfl
theorem dw_laidOut : laidOutB Tryd.prog = true := by kernel_rfl
theorem dw_months : Tryd.prog.globalNamed "florilegium/prop.monthLengths" = some 0 := by kernel_rfl
theorem dw_monthsType : (Tryd.prog.globals[0]?).map (·.type) = some 93 := by kernel_rfl
theorem dw_cellsInt : Tryd.prog.cellsOf 3 = 1 := by kernel_rfl
theorem dw_cellsMonths : Tryd.prog.cellsOf 93 = 12 := by kernel_rfl

theorem tab_of_laid {W : World} (h : laidMet Tryd.prog [("florilegium/prop.monthLengths", Rows.laid_florilegium_prop_monthLengths)] W) : Tab W := by
  have hT := Lib.tabIs_of_head (k := .i64) (zs := tab) dw_months dw_monthsType Tryd.underlying93 Tryd.underlying3 dw_cellsInt dw_cellsMonths h
  intro i hi
  exact hT.cell dw_months i hi

theorem dw_met (os : Os) (args : Array Value) : laidMetH Tryd.prog Rows.dayWalkRow.laid ((World.doorLaid Tryd.prog 4000 os).forCall (fun _ _ => 0) ⟨#[], args, []⟩).memory :=
  laidMetH_of_parts3 (fuel := 8) (laidMet_of_run' 8 (by kernel_rfl) (by kernel_rfl)) (by kernel_rfl) (by kernel_rfl)

theorem dw_reads (os : Os) {H : Type} (enc : TypeId × Value → H) : ∃ places, DataW.whole enc Tryd.prog ((World.doorLaid Tryd.prog 4000 os).forCall (fun _ _ => 0) ⟨#[], #[.int .i64 0], []⟩).memory Tryd.f6.params.toList Rows.dayWalkSpec.vars false #[Value.int .i64 0].toList 8 =
    some ([.lit (.int .i64 0)], [], places) := ⟨[], by kernel_rfl⟩

theorem dayWalk_any (d : Int) (w : World) (ht : Tab w) :
    Calls Tryd.prog 6 #[.int .i64 d] w fun e w' => e = .returned (.bool true) ∧ w = w' := by
  by_cases h : 0 ≤ d ∧ d < 100000
  · exact dayWalk_in d w ht h.1 h.2
  · exact dayWalk_out d w ht (by omega)

set_option maxRecDepth 100000 in
theorem dw_contract (H : Type) (enc : TypeId × Value → H) (W : World) (base : Nat) (args : Array Value) (ds gs : List (DataW H)) (before : List MemPlace)
    (hval : ∀ (j : Nat) t v, Tryd.f6.params[j]? = some t → args[j]? = some v → Value.okWide Tryd.prog W .any base t v)
    (hW : DataW.Whole enc Tryd.prog Tryd.f6.params.toList Rows.dayWalkSpec.vars false W args.toList ds gs before)
    (hL : laidMetH Tryd.prog Rows.dayWalkRow.laid W) :
    Calls Tryd.prog 6 args W fun e W' => ∃ v, e = .returned v ∧ Rows.dayWalkSpec.post enc Tryd.prog Tryd.f6 false true false false W args v W' := by
  have hW' := hW
  obtain ⟨p, q, hA0, hV, rfl, hfz, hnd⟩ := hW
  have hA : DataW.TrodAll enc Tryd.prog W 0 (fun _ => true) true Tryd.f6.params.toList args.toList ds p := hA0
  rw [Tryd.params6] at hA hval
  obtain ⟨v0, d0, rfl, rfl, h0⟩ := trodAll_one hA
  obtain ⟨rfl, rfl⟩ := trodVars_none hV
  obtain ⟨d, rfl, rfl, rfl, hd⟩ := open_int Tryd.underlying3 (hval 0 3 v0 rfl rfl) h0
  have ht : Tab W := tab_of_laid (by rw [← MakeChecks.laidMetH_plain _ _ _ (by kernel_rfl)]; exact hL)
  clear hA0
  refine (dayWalk_any d W ht).mono fun e W' ⟨he, hw⟩ => ?_
  subst he; subst hw
  exact ⟨_, rfl, post_of_same (pa := []) hW' (fun _ _ _ => trodAll_mk1 (shut_bool Tryd.underlying4 _)) (fun sp _ => trodAll_mk1 (shut_int Tryd.underlying3 hd)) (fun sp _ => rfl) (by simp)
      (World.keptBut_refl _ _) (fun _ => rfl) (ok_one (by kernel_rfl) rfl (okWide_bool_mk Tryd.underlying4 _))⟩

set_option maxRecDepth 100000 in
theorem dw_lifted (os : Os) (started : os.Started) (H : Type) (enc : TypeId × Value → H) (F : Stop.Interp) :
    ReturnsInHanded {} Tryd.checked os 6 .any ((OpenSpec.ofChange Rows.dayWalkSpec).preRow enc Tryd.prog Tryd.f6 Rows.dayWalkRow.domain false Rows.dayWalkRow.laid) (((OpenSpec.ofChange Rows.dayWalkSpec).at F).post enc Tryd.prog Tryd.f6 false true false false) := by
  obtain ⟨places, hx⟩ := dw_reads os enc
  refine returnsInHanded_of_row (C := Tryd.checked) (s := OpenSpec.ofChange Rows.dayWalkSpec) dw_own started (by kernel_rfl) Tryd.func6
    (witness_row_atRef (enc := enc) (C := Tryd.checked) false (World.doorLaid Tryd.prog 4000 os) #[.int .i64 0] rfl (by kernel_rfl) (by kernel_rfl) (by kernel_rfl)
      (OpenSpec.preRow_of_cond 8 hx (by kernel_rfl) (fun k hk => by cases hk) (by kernel_rfl) (dw_met os _))) ?_
  intro W base args ds gs before hval hW _ _ _ hL _ _
  exact dw_contract H enc W base args ds gs before hval hW hL

theorem dayWalk_said : Rows.DayWalkSaid :=
  OpenClaim.holds_of_cond 6 Tryd.f6 rfl rfl rfl rfl rfl rfl rfl ⟨rfl, rfl, rfl, rfl, rfl⟩ rfl rfl rfl rfl rfl (by kernel_rfl) Tryd.func6 (by kernel_rfl)
    (of_decide_eq_true (by kernel_rfl)) (by unfold Func.isWrapper; first | (rw [if_pos (by decide +kernel)]; kernel_rfl) | (rw [if_neg (by decide +kernel)]; exact ⟨rfl, rfl⟩))
    (fun os started H enc _ F => by rw [OpenClaim.pre_eq_preRow]; exact dw_lifted os started H enc F)

theorem dw_plain (f : FuncId) (fn : Func) (hf : Tryd.pinned.checked.prog.funcNamed "florilegium/florkeep2.DayWalk" = some f) (hfn : Tryd.pinned.checked.prog.funcs[f]? = some fn) :
    false = Tryd.pinned.checked.prog.looks [] ∧ ∀ (j : Nat) t, fn.params[j]? = some t → Tryd.pinned.checked.prog.wantsStandIn t = false := by
  obtain rfl : f = 6 := Option.some.inj ((show Tryd.prog.funcNamed "florilegium/florkeep2.DayWalk" = some 6 by kernel_rfl).symm.trans hf) |>.symm
  obtain rfl : fn = Tryd.f6 := (Option.some.inj (Tryd.func6.symm.trans hfn)).symm
  refine ⟨by kernel_rfl, fun j t ht => ?_⟩
  rw [Tryd.params6] at ht
  have hm : t ∈ [3] := by simpa using Array.mem_of_getElem? ht
  have hall : ([3].all fun u => !Tryd.prog.wantsStandIn u) = true := by kernel_rfl
  exact (show Tryd.prog.wantsStandIn t = false by simpa using List.all_eq_true.1 hall t hm)

/-- The card. -/
theorem dayWalk_card : Rows.DayWalkCardSaid :=
  Claim7.holds_tied_plain_at .later [] _ _ _ _ dayWalk_said (fun _ h => by cases h) (by kernel_rfl) (fun _ h => by cases h) dayWalk_row_tie rfl ⟨rfl, rfl⟩ (by kernel_rfl) rfl dw_plain (by kernel_rfl)
#print axioms dayWalk_card
end Go.Proofs.YtkidjhdfpdecoaaDoor
