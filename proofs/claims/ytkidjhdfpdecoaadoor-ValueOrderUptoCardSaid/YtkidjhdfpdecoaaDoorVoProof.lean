/- For every three values, nested in whatever way, that are together of bulk at most 1048576 (whatever else lies in memory, within the form's own reach, the table of the months' lengths as the program's text lays it), the law ValueOrder returns true and leaves its arguments as they were: Compare is a total order. -/
import Derived.Test.YtkidjhdfpdecoaaDoorVoA
import Derived.Test.YtkidjhdfpdecoaaDoorValO
import Derived.Test.YtkidjhdfpdecoaaDoorCards
import Derived.Test.YtkidjhdfpdecoaaDoorTie
import Derived.WalkKit
import Derived.ProofKit
import Derived.OpenShut
import Derived.ChangeOld
import Derived.Below
import Derived.SizedLaws
import Derived.Lib.SmallJoins
import Derived.Lib.LaidTab
import Derived.MakeChecks
import Derived.Deep.DeepHandedRow
import Derived.Deep.DeepWitnessRowRef
import Derived.LaidMore
import Derived.Stop.Joined
namespace Go.Proofs.YtkidjhdfpdecoaaDoor
open Go.ChangeShapes Go.WideShapes Go.ChangeAt Go.RowKit Go.Joins

theorem vo_own : ownKnob Tryd.prog.godebug = none := by kernel_rfl
theorem vo_laidOut : laidOutB Tryd.prog = true := by kernel_rfl
theorem vo_months : Tryd.prog.globalNamed "florilegium/prop.monthLengths" = some 0 := by kernel_rfl
theorem vo_monthsType : (Tryd.prog.globals[0]?).map (·.type) = some 93 := by kernel_rfl
theorem vo_cellsInt : Tryd.prog.cellsOf 3 = 1 := by kernel_rfl
theorem vo_cellsMonths : Tryd.prog.cellsOf 93 = 12 := by kernel_rfl

theorem vo_tab {W : World} (h : laidMet Tryd.prog [("florilegium/prop.monthLengths", Rows.laid_florilegium_prop_monthLengths)] W) : Tab W := by
  have hT := Lib.tabIs_of_head (k := .i64) (zs := tab) vo_months vo_monthsType Tryd.underlying93 Tryd.underlying3 vo_cellsInt vo_cellsMonths h
  intro i hi
  exact hT.cell vo_months i hi

theorem vo_met (os : Os) (args : Array Value) : laidMetH Tryd.prog Rows.valueOrderUptoRow.laid ((World.doorLaid Tryd.prog 4000 os).forCall (fun _ _ => 0) ⟨#[], args, []⟩).memory :=
  laidMetH_of_parts3 (fuel := 8) (laidMet_of_run' 8 (by kernel_rfl) (by kernel_rfl)) (by kernel_rfl) (by kernel_rfl)

noncomputable def vo_none : Value := .agg #[.int .i64 0, .int .i64 0, .int .i64 0, .string ByteArray.empty, .slice none 0 0]
def vo_zero {H : Type} : DataW H := .agg [.lit (.int .i64 0), .lit (.int .i64 0), .lit (.int .i64 0), .lit (.string []), .nil]
theorem vo_reads (os : Os) {H : Type} (enc : TypeId × Value → H) : ∃ places, DataW.whole enc Tryd.prog ((World.doorLaid Tryd.prog 4000 os).forCall (fun _ _ => 0) ⟨#[], #[vo_none, vo_none, vo_none], []⟩).memory Tryd.f5.params.toList Rows.valueOrderSpec.vars false #[vo_none, vo_none, vo_none].toList 8 =
    some ([vo_zero, vo_zero, vo_zero], [], places) := ⟨[], by kernel_rfl⟩

set_option maxRecDepth 100000 in
theorem vo_contract (H : Type) (enc : TypeId × Value → H) (W : World) (base : Nat) (args : Array Value) (ds gs : List (DataW H)) (before : List MemPlace)
    (hval : ∀ (j : Nat) t v, Tryd.f5.params[j]? = some t → args[j]? = some v → Value.okWide Tryd.prog W .any base t v)
    (hW : DataW.Whole enc Tryd.prog Tryd.f5.params.toList Rows.valueOrderSpec.vars false W args.toList ds gs before)
    (hk : Rows.uptoSmall H (ds ++ gs) = true)
    (hL : laidMetH Tryd.prog Rows.valueOrderUptoRow.laid W) :
    Calls Tryd.prog 5 args W fun e W' => ∃ v, e = .returned v ∧ Rows.valueOrderSpec.post enc Tryd.prog Tryd.f5 false true false false W args v W' := by
  have hW' := hW
  obtain ⟨p, q, hA0, hV, rfl, hfz, hnd⟩ := hW
  have hA : DataW.TrodAll enc Tryd.prog W 0 (fun _ => true) true Tryd.f5.params.toList args.toList ds p := hA0
  rw [Tryd.params5] at hA hval
  obtain ⟨v0, v1, v2, d0, d1, d2, p0, p1, p2, rfl, rfl, rfl, h0, h1, h2⟩ := trodAll_three hA
  obtain ⟨rfl, rfl⟩ := trodVars_none hV
  have lt0 : ∀ x ∈ p0, x.block < W.heap.size := by obtain ⟨m, hm⟩ := h0; exact DataW.trod_lt m _ _ _ hm
  have lt1 : ∀ x ∈ p1, x.block < W.heap.size := by obtain ⟨m, hm⟩ := h1; exact DataW.trod_lt m _ _ _ hm
  have lt2 : ∀ x ∈ p2, x.block < W.heap.size := by obtain ⟨m, hm⟩ := h2; exact DataW.trod_lt m _ _ _ hm
  have k0 := h0
  have k1 := h1
  have k2 := h2
  have hb : Rows.uptoBulk d0 + (Rows.uptoBulk d1 + (Rows.uptoBulk d2 + 0)) ≤ 1048576 := by
    have := of_decide_eq_true hk
    simpa only [List.append_nil, Rows.uptoBulkAll] using this
  obtain ⟨a, ha, za⟩ := Vl.value_came (hval 0 49 v0 rfl rfl) h0 (by omega)
  obtain ⟨b, hb', zb⟩ := Vl.value_came (hval 1 49 v1 rfl rfl) h1 (by omega)
  obtain ⟨c, hc, zc⟩ := Vl.value_came (hval 2 49 v2 rfl rfl) h2 (by omega)
  have ht : Tab W := vo_tab (by rw [← MakeChecks.laidMetH_plain _ _ _ (by kernel_rfl)]; exact hL)
  clear hA0
  refine (Vl.valueOrder_any a b c v0 v1 v2 W ht ha hb' hc (by omega) (by omega)).mono fun e W' ⟨he, bel⟩ => ?_
  subst he
  exact ⟨_, rfl, _, _, _, [], _, [], hW', trodAll_mk1 (shut_bool Tryd.underlying4 _),
    trodAll_cons_mk (Below.trod vo_laidOut (by kernel_rfl) (of_decide_eq_true (by kernel_rfl)) k0 bel lt0)
      (trodAll_cons_mk (Below.trod vo_laidOut (by kernel_rfl) (of_decide_eq_true (by kernel_rfl)) k1 bel lt1)
        (trodAll_cons_mk (Below.trod vo_laidOut (by kernel_rfl) (of_decide_eq_true (by kernel_rfl)) k2 bel lt2) trodAll_mk0)), rfl, bel.frame _, fun h => by cases h⟩

set_option maxRecDepth 100000 in
theorem vo_lifted (os : Os) (started : os.Started) (H : Type) (enc : TypeId × Value → H) (F : Stop.Interp) :
    ReturnsInHanded {} Tryd.checked os 5 .any ((Rows.OpenSpec.upto Rows.valueOrderSpec).preRow enc Tryd.prog Tryd.f5 Rows.valueOrderUptoRow.domain false Rows.valueOrderUptoRow.laid) (((Rows.OpenSpec.upto Rows.valueOrderSpec).at F).post enc Tryd.prog Tryd.f5 false true false false) := by
  obtain ⟨places, hx⟩ := vo_reads os enc
  refine returnsInHanded_of_row (C := Tryd.checked) (s := Rows.OpenSpec.upto Rows.valueOrderSpec) vo_own started (by kernel_rfl) Tryd.func5
    (witness_row_atRef (enc := enc) (C := Tryd.checked) false (World.doorLaid Tryd.prog 4000 os) #[vo_none, vo_none, vo_none] rfl (by kernel_rfl) (by kernel_rfl) (by kernel_rfl)
      (OpenSpec.preRow_of_cond 8 hx (by kernel_rfl) (fun k hk => by cases hk; kernel_rfl) (by kernel_rfl) (vo_met os _))) ?_
  intro W base args ds gs before hval hW h1 h2 h3 hL _ _
  have hcond := h2
  exact vo_contract H enc W base args ds gs before hval hW (hcond _ rfl) hL

theorem valueOrder_said : Rows.ValueOrderUptoSaid :=
  OpenClaim.holds_of_cond 5 Tryd.f5 rfl rfl rfl rfl rfl rfl rfl ⟨rfl, rfl, rfl, rfl, rfl⟩ rfl rfl rfl rfl rfl (by kernel_rfl) Tryd.func5 (by kernel_rfl)
    (of_decide_eq_true (by kernel_rfl)) (by unfold Func.isWrapper; first | (rw [if_pos (by decide +kernel)]; kernel_rfl) | (rw [if_neg (by decide +kernel)]; exact ⟨rfl, rfl⟩))
    (fun os started H enc _ F => by rw [OpenClaim.pre_eq_preRow]; exact vo_lifted os started H enc F)

theorem vo_plain (f : FuncId) (fn : Func) (hf : Tryd.pinned.checked.prog.funcNamed "florilegium/florkeep2.ValueOrder" = some f) (hfn : Tryd.pinned.checked.prog.funcs[f]? = some fn) :
    false = Tryd.pinned.checked.prog.looks [] ∧ ∀ (j : Nat) t, fn.params[j]? = some t → Tryd.pinned.checked.prog.wantsStandIn t = false := by
  obtain rfl : f = 5 := Option.some.inj ((show Tryd.prog.funcNamed "florilegium/florkeep2.ValueOrder" = some 5 by kernel_rfl).symm.trans hf) |>.symm
  obtain rfl : fn = Tryd.f5 := (Option.some.inj (Tryd.func5.symm.trans hfn)).symm
  refine ⟨by kernel_rfl, fun j t ht => ?_⟩
  rw [Tryd.params5] at ht
  have hm : t ∈ [49, 49, 49] := by simpa using Array.mem_of_getElem? ht
  have hall : ([49, 49, 49].all fun u => !Tryd.prog.wantsStandIn u) = true := by kernel_rfl
  exact (show Tryd.prog.wantsStandIn t = false by simpa using List.all_eq_true.1 hall t hm)

/-- The card. -/
theorem valueOrder_card : Rows.ValueOrderUptoCardSaid :=
  Claim7.holds_tied_plain_at .later [] _ _ _ _ valueOrder_said (fun _ h => by cases h) (by kernel_rfl) (fun _ h => by cases h) valueOrderUpto_row_tie rfl ⟨rfl, rfl⟩ (by kernel_rfl) rfl vo_plain (by kernel_rfl)
#print axioms valueOrder_card
end Go.Proofs.YtkidjhdfpdecoaaDoor
