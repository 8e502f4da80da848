/- For all five numbers (whatever lies in memory, within the form's own reach, the listed tables as the text lays them), the law DayCounts returns true and leaves its arguments as they were: DayOf, Months, DateOf, Week and DateText give what the reference's calendar gives. -/
import Derived.Test.YtkidjhdfpdecoaaDoorDcF
import Derived.Test.YtkidjhdfpdecoaaDoorCards
import Derived.Test.YtkidjhdfpdecoaaDoorTie
import Derived.WalkKit
import Derived.ProofKit
import Derived.OpenShut
import Derived.ChangeOld
import Derived.Below
import Derived.SizedLaws
import Derived.Lib.SmallJoins
import Derived.Lib.LaidTab
import Derived.MakeChecks
import Derived.Carry
import Derived.Deep.DeepHandedRow
import Derived.Deep.DeepWitnessRowRef
import Derived.LaidMore
import Derived.Stop.Joined
import Derived.Stop.LaidErr
namespace Go.Proofs.YtkidjhdfpdecoaaDoor
open Go.ChangeShapes Go.WideShapes Go.ChangeAt Go.RowKit Go.Joins

theorem dc_own : ownKnob Tryd.prog.godebug = none := by kernel_rfl
theorem dc_laidOut : laidOutB Tryd.prog = true := by kernel_rfl
theorem dc_months : Tryd.prog.globalNamed "florilegium/prop.monthLengths" = some 0 := by kernel_rfl
theorem dc_monthsType : (Tryd.prog.globals[0]?).map (·.type) = some 93 := by kernel_rfl
theorem dc_cellsInt : Tryd.prog.cellsOf 3 = 1 := by kernel_rfl
theorem dc_cellsMonths : Tryd.prog.cellsOf 93 = 12 := by kernel_rfl
theorem dc_powType : (Tryd.prog.globals[3]?).map (·.type) = some 193 := by kernel_rfl
theorem dc_cellsU : Tryd.prog.cellsOf 159 = 1 := by kernel_rfl
theorem dc_cellsPow : Tryd.prog.cellsOf 193 = 20 := by kernel_rfl

theorem dc_tab {W : World} {r : List (String × DataW Unit)} (h : laidMet Tryd.prog (("florilegium/prop.monthLengths", Rows.laid_florilegium_prop_monthLengths) :: r) W) : Tab W := by
  have hT := Lib.tabIs_of_head (k := .i64) (zs := tab) dc_months dc_monthsType Tryd.underlying93 Tryd.underlying3 dc_cellsInt dc_cellsMonths h
  intro i hi
  exact hT.cell dc_months i hi
theorem dc_powIs {W : World} {r : List (String × DataW Unit)} (h : laidMet Tryd.prog (("internal/strconv.uint64pow10", Rows.laid_internal_strconv_uint64pow10) :: r) W) : Pow W :=
  Lib.tabIs_of_head (k := .u64) (zs := Lib.pow10Tab) dc_pow dc_powType Tryd.underlying193 Tryd.underlying159 dc_cellsU dc_cellsPow h

theorem dc_met (os : Os) (args : Array Value) : laidMetH Tryd.prog Rows.dayCountsRow.laid ((World.doorLaid Tryd.prog 4000 os).forCall (fun _ _ => 0) ⟨#[], args, []⟩).memory :=
  laidMetH_of_parts3 (fuel := 8) (laidMet_of_run' 8 (by kernel_rfl) (by kernel_rfl)) (by kernel_rfl) (by kernel_rfl)

theorem dc_reads (os : Os) {H : Type} (enc : TypeId × Value → H) : ∃ places, DataW.whole enc Tryd.prog ((World.doorLaid Tryd.prog 4000 os).forCall (fun _ _ => 0) ⟨#[], #[.int .i64 0, .int .i64 0, .int .i64 0, .int .i64 0, .int .i64 0], []⟩).memory Tryd.f3.params.toList Rows.dayCountsSpec.vars false #[Value.int .i64 0, .int .i64 0, .int .i64 0, .int .i64 0, .int .i64 0].toList 8 =
    some ([.lit (.int .i64 0), .lit (.int .i64 0), .lit (.int .i64 0), .lit (.int .i64 0), .lit (.int .i64 0)], [], places) := ⟨[], by kernel_rfl⟩

theorem dayCounts_any (y m c d n : Int) (w : World) (ht : Tab w) (hp : Pow w) :
    Calls Tryd.prog 3 #[.int .i64 y, .int .i64 m, .int .i64 c, .int .i64 d, .int .i64 n] w fun e w' => e = .returned (.bool true) ∧ Below w.heap.size w w' := by
  by_cases h : 0 ≤ d ∧ d ≤ 100000
  · exact dayCounts_good y m c d n w ht hp h.1 h.2
  · exact dayCounts_bad y m c d n w ht (by omega)

section
variable {H : Type} {enc : TypeId × Value → H} {P : Program} {w : World} {base : Nat} {spare : Nat → Bool} {held : Bool}
theorem trodAll_five {t t' t'' t3 t4 : TypeId} {args : Array Value} {ds : List (DataW H)} {ps : List MemPlace} (h : DataW.TrodAll enc P w base spare held [t, t', t'', t3, t4] args.toList ds ps) :
    ∃ v v' v'' v3 v4 d d' d'' d3 d4 p p' p'' p3 p4, args = #[v, v', v'', v3, v4] ∧ ds = [d, d', d'', d3, d4] ∧ ps = p ++ p' ++ p'' ++ p3 ++ p4 ∧ DataW.Trod enc P w base spare held t v d p ∧ DataW.Trod enc P w base spare held t' v' d' p' ∧ DataW.Trod enc P w base spare held t'' v'' d'' p'' ∧ DataW.Trod enc P w base spare held t3 v3 d3 p3 ∧ DataW.Trod enc P w base spare held t4 v4 d4 p4 := by
  obtain ⟨v, vs, d, ds', p, q, hargs, rfl, rfl, hd, hrest⟩ := trodAll_cons h
  obtain ⟨v', vs', d', ds'', p', q', rfl, rfl, rfl, hd', hrest'⟩ := trodAll_cons hrest
  obtain ⟨v'', vs'', d'', ds''', p'', q'', rfl, rfl, rfl, hd'', hrest''⟩ := trodAll_cons hrest'
  obtain ⟨v3, vs3, d3, ds3, p3, q3, rfl, rfl, rfl, hd3, hrest3⟩ := trodAll_cons hrest''
  obtain ⟨v4, vs4, d4, ds4, p4, q4, rfl, rfl, rfl, hd4, hrest4⟩ := trodAll_cons hrest3
  obtain ⟨rfl, rfl, rfl⟩ := trodAll_nil hrest4
  exact ⟨v, v', v'', v3, v4, d, d', d'', d3, d4, p, p', p'', p3, p4, by cases args; simp_all, rfl, by simp, hd, hd', hd'', hd3, hd4⟩
end

set_option maxRecDepth 100000 in
theorem dc_contract (H : Type) (enc : TypeId × Value → H) (W : World) (base : Nat) (args : Array Value) (ds gs : List (DataW H)) (before : List MemPlace)
    (hval : ∀ (j : Nat) t v, Tryd.f3.params[j]? = some t → args[j]? = some v → Value.okWide Tryd.prog W .any base t v)
    (hW : DataW.Whole enc Tryd.prog Tryd.f3.params.toList Rows.dayCountsSpec.vars false W args.toList ds gs before)
    (hL : laidMetH Tryd.prog Rows.dayCountsRow.laid W) :
    Calls Tryd.prog 3 args W fun e W' => ∃ v, e = .returned v ∧ Rows.dayCountsSpec.post enc Tryd.prog Tryd.f3 false true false false W args v W' := by
  have hW' := hW
  obtain ⟨p, q, hA0, hV, rfl, hfz, hnd⟩ := hW
  have hA : DataW.TrodAll enc Tryd.prog W 0 (fun _ => true) true Tryd.f3.params.toList args.toList ds p := hA0
  rw [Tryd.params3] at hA hval
  obtain ⟨v0, v1, v2, v3, v4, d0, d1, d2, d3, d4, p0, p1, p2, p3, p4, rfl, rfl, rfl, h0, h1, h2, h3, h4⟩ := trodAll_five hA
  obtain ⟨rfl, rfl⟩ := trodVars_none hV
  obtain ⟨y, rfl, rfl, rfl, e0⟩ := open_int Tryd.underlying3 (hval 0 3 v0 rfl rfl) h0
  obtain ⟨m, rfl, rfl, rfl, e1⟩ := open_int Tryd.underlying3 (hval 1 3 v1 rfl rfl) h1
  obtain ⟨c, rfl, rfl, rfl, e2⟩ := open_int Tryd.underlying3 (hval 2 3 v2 rfl rfl) h2
  obtain ⟨d, rfl, rfl, rfl, e3⟩ := open_int Tryd.underlying3 (hval 3 3 v3 rfl rfl) h3
  obtain ⟨n, rfl, rfl, rfl, e4⟩ := open_int Tryd.underlying3 (hval 4 3 v4 rfl rfl) h4
  have hL1 : laidMet Tryd.prog Rows.dayCountsRow.laid W := by rw [← MakeChecks.laidMetH_plain _ _ _ (by kernel_rfl)]; exact hL
  have hL2 := laidMet.tail (laidMet.tail hL1)
  have hp : Pow W := dc_powIs hL2
  have ht : Tab W := dc_tab (laidMet.tail hL2)
  clear hA0 hL1 hL2
  refine (dayCounts_any y m c d n W ht hp).mono fun e W' ⟨he, bel⟩ => ?_
  subst he
  exact ⟨_, rfl, _, _, _, [], _, [], hW', trodAll_mk1 (shut_bool Tryd.underlying4 _),
    trodAll_cons_mk (shut_int Tryd.underlying3 e0) (trodAll_cons_mk (shut_int Tryd.underlying3 e1) (trodAll_cons_mk (shut_int Tryd.underlying3 e2) (trodAll_cons_mk (shut_int Tryd.underlying3 e3) (trodAll_cons_mk (shut_int Tryd.underlying3 e4) trodAll_mk0)))), rfl, bel.frame _, fun h => by cases h⟩

set_option maxRecDepth 100000 in
theorem dc_lifted (os : Os) (started : os.Started) (H : Type) (enc : TypeId × Value → H) (F : Stop.Interp) :
    ReturnsInHanded {} Tryd.checked os 3 .any ((OpenSpec.ofChange Rows.dayCountsSpec).preRow enc Tryd.prog Tryd.f3 Rows.dayCountsRow.domain false Rows.dayCountsRow.laid) (((OpenSpec.ofChange Rows.dayCountsSpec).at F).post enc Tryd.prog Tryd.f3 false true false false) := by
  obtain ⟨places, hx⟩ := dc_reads os enc
  refine returnsInHanded_of_row (C := Tryd.checked) (s := OpenSpec.ofChange Rows.dayCountsSpec) dc_own started (by kernel_rfl) Tryd.func3
    (witness_row_atRef (enc := enc) (C := Tryd.checked) false (World.doorLaid Tryd.prog 4000 os) #[.int .i64 0, .int .i64 0, .int .i64 0, .int .i64 0, .int .i64 0] rfl (by kernel_rfl) (by kernel_rfl) (by kernel_rfl)
      (OpenSpec.preRow_of_cond 8 hx (by kernel_rfl) (fun k hk => by cases hk) (by kernel_rfl) (dc_met os _))) ?_
  intro W base args ds gs before hval hW _ _ _ hL _ _
  exact dc_contract H enc W base args ds gs before hval hW hL

theorem dayCounts_said : Rows.DayCountsSaid :=
  OpenClaim.holds_of_cond 3 Tryd.f3 rfl rfl rfl rfl rfl rfl rfl ⟨rfl, rfl, rfl, rfl, rfl⟩ rfl rfl rfl rfl rfl (by kernel_rfl) Tryd.func3 (by kernel_rfl)
    (of_decide_eq_true (by kernel_rfl)) (by unfold Func.isWrapper; first | (rw [if_pos (by decide +kernel)]; kernel_rfl) | (rw [if_neg (by decide +kernel)]; exact ⟨rfl, rfl⟩))
    (fun os started H enc _ F => by rw [OpenClaim.pre_eq_preRow]; exact dc_lifted os started H enc F)

theorem dc_plain (f : FuncId) (fn : Func) (hf : Tryd.pinned.checked.prog.funcNamed "florilegium/florlaw2.DayCounts" = some f) (hfn : Tryd.pinned.checked.prog.funcs[f]? = some fn) :
    false = Tryd.pinned.checked.prog.looks [] ∧ ∀ (j : Nat) t, fn.params[j]? = some t → Tryd.pinned.checked.prog.wantsStandIn t = false := by
  obtain rfl : f = 3 := Option.some.inj ((show Tryd.prog.funcNamed "florilegium/florlaw2.DayCounts" = some 3 by kernel_rfl).symm.trans hf) |>.symm
  obtain rfl : fn = Tryd.f3 := (Option.some.inj (Tryd.func3.symm.trans hfn)).symm
  refine ⟨by kernel_rfl, fun j t ht => ?_⟩
  rw [Tryd.params3] at ht
  have hm : t ∈ [3, 3, 3, 3, 3] := by simpa using Array.mem_of_getElem? ht
  have hall : ([3, 3, 3, 3, 3].all fun u => !Tryd.prog.wantsStandIn u) = true := by kernel_rfl
  exact (show Tryd.prog.wantsStandIn t = false by simpa using List.all_eq_true.1 hall t hm)

/-- The card. -/
theorem dayCounts_card : Rows.DayCountsCardSaid :=
  Claim7.holds_tied_plain_at .later [] _ _ _ _ dayCounts_said (fun _ h => by cases h) (by kernel_rfl) (fun _ h => by cases h) dayCounts_row_tie rfl ⟨rfl, rfl⟩ (by kernel_rfl) rfl dc_plain (by kernel_rfl)
#print axioms dayCounts_card
end Go.Proofs.YtkidjhdfpdecoaaDoor
