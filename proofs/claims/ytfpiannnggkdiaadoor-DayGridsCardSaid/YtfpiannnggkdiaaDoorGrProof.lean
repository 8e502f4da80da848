/- For every year, month, list of numbers and number (whatever lies in memory, within the form's own reach, the listed tables as the text lays them), the law DayGrids returns true and leaves its arguments as they were: Grid and Streak give what the reference gives. -/
import Derived.Test.YtfpiannnggkdiaaDoorGrL
import Derived.Test.YtfpiannnggkdiaaDoorCards
import Derived.Test.YtfpiannnggkdiaaDoorTie
import Derived.WalkKit
import Derived.ProofKit
import Derived.OpenShut
import Derived.ChangeOld
import Derived.Below
import Derived.SizedLaws
import Derived.Lib.SmallJoins
import Derived.Lib.LaidTab
import Derived.MakeChecks
import Derived.Carry
import Derived.ChangeMaps5
import Derived.Deep.DeepHandedRow
import Derived.Deep.DeepWitnessRowRef
import Derived.LaidMore
import Derived.Stop.Joined
import Derived.Stop.LaidErr
namespace Go.Proofs.YtfpiannnggkdiaaDoor
open Go.ChangeShapes Go.WideShapes Go.ChangeAt Go.RowKit Go.Joins

theorem dg_own : ownKnob Tryd.prog.godebug = none := by kernel_rfl
theorem dg_laidOut : laidOutB Tryd.prog = true := by kernel_rfl
theorem dg_months : Tryd.prog.globalNamed "florilegium/prop.monthLengths" = some 1 := by kernel_rfl
theorem dg_monthsType : (Tryd.prog.globals[1]?).map (·.type) = some 118 := by kernel_rfl
theorem dg_cellsInt : Tryd.prog.cellsOf 3 = 1 := by kernel_rfl
theorem dg_cellsMonths : Tryd.prog.cellsOf 118 = 12 := by kernel_rfl

theorem dg_tab {W : World} {r : List (String × DataW Unit)} (h : laidMet Tryd.prog (("florilegium/prop.monthLengths", Rows.laid_florilegium_prop_monthLengths) :: r) W) : Tab W := by
  have hT := Lib.tabIs_of_head (k := .i64) (zs := tab) dg_months dg_monthsType Tryd.underlying118 Tryd.underlying3 dg_cellsInt dg_cellsMonths h
  intro i hi
  exact hT.cell dg_months i hi
theorem dg_dmonths : Tryd.prog.globalNamed "florilegium/day.monthLengths" = some 0 := by kernel_rfl
theorem dg_dmonthsType : (Tryd.prog.globals[0]?).map (·.type) = some 118 := by kernel_rfl
theorem dg_dtab {W : World} {r : List (String × DataW Unit)} (h : laidMet Tryd.prog (("florilegium/day.monthLengths", Rows.laid_florilegium_day_monthLengths) :: r) W) : TabD W := by
  have hT := Lib.tabIs_of_head (k := .i64) (zs := tab) dg_dmonths dg_dmonthsType Tryd.underlying118 Tryd.underlying3 dg_cellsInt dg_cellsMonths h
  intro i hi
  exact hT.cell dg_dmonths i hi

theorem dg_met (os : Os) (args : Array Value) : laidMetH Tryd.prog Rows.dayGridsRow.laid ((World.doorLaid Tryd.prog 4000 os).forCall (fun _ _ => 0) ⟨#[], args, []⟩).memory :=
  laidMetH_of_parts3 (fuel := 8) (laidMet_of_run' 8 (by kernel_rfl) (by kernel_rfl)) (by kernel_rfl) (by kernel_rfl)

theorem dg_reads (os : Os) {H : Type} (enc : TypeId × Value → H) : ∃ places, DataW.whole enc Tryd.prog ((World.doorLaid Tryd.prog 4000 os).forCall (fun _ _ => 0) ⟨#[], #[.int .i64 0, .int .i64 0, .slice none 0 0, .int .i64 0], []⟩).memory Tryd.f3.params.toList Rows.dayGridsSpec.vars false #[Value.int .i64 0, .int .i64 0, .slice none 0 0, .int .i64 0].toList 8 =
    some ([.lit (.int .i64 0), .lit (.int .i64 0), .nil, .lit (.int .i64 0)], [], places) := ⟨[], by kernel_rfl⟩

theorem dg_bytes : Tryd.prog.bytesOf 3 = 8 := by kernel_rfl
/-- A slice of numbers that came in. -/
theorem ints_came {H : Type} {enc : TypeId × Value → H} {W : World} {sp : Nat → Bool} {hd : Bool} {a0 : Option Addr} {len cap : Nat} {d : DataW H} {p : List MemPlace}
    (h : DataW.Trod enc Tryd.prog W 0 sp hd 22 (.slice a0 len cap) d p) (hp : ∀ x ∈ p, x.block < W.heap.size)
    (hk : ∀ elems spare, d = .slice elems spare → (elems.length + spare.length) * 8 ≤ reachBytes) : ∃ zs : List Int, IntsAt W W.heap.size zs (.slice a0 len cap) := by
  obtain ⟨fuel, hf⟩ := h
  rcases open_ints Tryd.underlying22 Tryd.underlying3 dg_cellsInt hf with ⟨hcs, _⟩ | ⟨x, l, c, zs, hcs, _, hl, hm, hz, hx, hcell, hwz⟩
  · simp [Value.cells] at hcs
    obtain ⟨rfl, rfl, rfl⟩ := hcs
    exact ⟨[], ⟨⟨none, 0, rfl, .inl rfl⟩, by simp, by simp⟩⟩
  · simp [Value.cells] at hcs
    obtain ⟨rfl, rfl, rfl⟩ := hcs
    simp only [Prod.mk.injEq] at hx
    obtain ⟨rfl, rfl⟩ := hx
    have hlz : len ≤ zs.length := by
      rw [hz]; split <;> omega
    have hlen : (zs.take len).length = len := by simp; omega
    refine ⟨zs.take len, ⟨⟨some x, cap, by rw [hlen], ?_⟩, ?_, fun n hn => hwz n (List.mem_of_mem_take hn)⟩⟩
    · by_cases h0 : len = 0
      · exact .inl (List.eq_nil_of_length_eq_zero (by rw [hlen]; exact h0))
      · obtain ⟨b, off, spot⟩ := x
        have hspot : spot = none := by simpa [Addr.add] using World.cell?_spot (hcell 0 (by omega))
        subst hspot
        refine .inr ⟨b, off, rfl, hp (.cell b off) (MemPlace.mem_row.2 ⟨0, by omega, by simp⟩), fun j hj => ?_⟩
        rw [hlen] at hj
        rw [← add_plain, hcell j (by omega)]
        have e : zs.getD j 0 = (zs.take len).getD j 0 := by
          rw [List.getD_eq_getElem?_getD, List.getD_eq_getElem?_getD, List.getElem?_take, if_pos (by omega)]
        rw [e]
    · rw [hlen]
      have h3 := hk _ _ rfl
      have h4 : (lits (H := H) .i64 (zs.take len)).length = len := by simp [lits]; omega
      rw [h4] at h3
      unfold reachBytes at h3
      omega

section
variable {H : Type} {enc : TypeId × Value → H} {P : Program} {w : World} {base : Nat} {spare : Nat → Bool} {held : Bool}
theorem trodAll_four {t t1 t2 t3 : TypeId} {args : Array Value} {ds : List (DataW H)} {ps : List MemPlace} (h : DataW.TrodAll enc P w base spare held [t, t1, t2, t3] args.toList ds ps) :
    ∃ v v1 v2 v3 d d1 d2 d3 p p1 p2 p3, args = #[v, v1, v2, v3] ∧ ds = [d, d1, d2, d3] ∧ ps = p ++ p1 ++ p2 ++ p3 ∧ DataW.Trod enc P w base spare held t v d p ∧ DataW.Trod enc P w base spare held t1 v1 d1 p1 ∧ DataW.Trod enc P w base spare held t2 v2 d2 p2 ∧ DataW.Trod enc P w base spare held t3 v3 d3 p3 := by
  obtain ⟨v, vs, d, ds0, p, q, hargs, rfl, rfl, hd, hrest⟩ := trodAll_cons h
  obtain ⟨v1, vs1, d1, ds1, p1, q1, rfl, rfl, rfl, hd1, hrest1⟩ := trodAll_cons hrest
  obtain ⟨v2, vs2, d2, ds2, p2, q2, rfl, rfl, rfl, hd2, hrest2⟩ := trodAll_cons hrest1
  obtain ⟨v3, vs3, d3, ds3, p3, q3, rfl, rfl, rfl, hd3, hrest3⟩ := trodAll_cons hrest2
  obtain ⟨rfl, rfl, rfl⟩ := trodAll_nil hrest3
  exact ⟨v, v1, v2, v3, d, d1, d2, d3, p, p1, p2, p3, by cases args; simp_all, rfl, by simp, hd, hd1, hd2, hd3⟩
end

set_option maxRecDepth 100000 in
theorem dg_contract (H : Type) (enc : TypeId × Value → H) (W : World) (base : Nat) (args : Array Value) (ds gs : List (DataW H)) (before : List MemPlace)
    (hval : ∀ (j : Nat) t v, Tryd.f3.params[j]? = some t → args[j]? = some v → Value.okWide Tryd.prog W .any base t v)
    (hW : DataW.Whole enc Tryd.prog Tryd.f3.params.toList Rows.dayGridsSpec.vars false W args.toList ds gs before)
    (hsz : (DataW.weightsEach Tryd.prog (Tryd.f3.params.toList ++ Rows.dayGridsSpec.plain.varTypes Tryd.prog) (ds ++ gs)).all (· ≤ reachBytes) = true)
    (hL : laidMetH Tryd.prog Rows.dayGridsRow.laid W) :
    Calls Tryd.prog 3 args W fun e W' => ∃ v, e = .returned v ∧ Rows.dayGridsSpec.post enc Tryd.prog Tryd.f3 false true false false W args v W' := by
  have hW' := hW
  obtain ⟨p, q, hA0, hV, rfl, hfz, hnd⟩ := hW
  have hA : DataW.TrodAll enc Tryd.prog W 0 (fun _ => true) true Tryd.f3.params.toList args.toList ds p := hA0
  rw [Tryd.params3] at hA hval hsz
  obtain ⟨v0, v1, v2, v3, d0, d1, d2, d3, p0, p1, p2, p3, rfl, rfl, rfl, h0, h1, h2, h3⟩ := trodAll_four hA
  obtain ⟨rfl, rfl⟩ := trodVars_none hV
  have lt2 : ∀ x ∈ p2, x.block < W.heap.size := by obtain ⟨m, hm⟩ := h2; exact DataW.trod_lt m _ _ _ hm
  have k2 := h2
  obtain ⟨y, rfl, rfl, rfl, e0⟩ := open_int Tryd.underlying3 (hval 0 3 v0 rfl rfl) h0
  obtain ⟨m, rfl, rfl, rfl, e1⟩ := open_int Tryd.underlying3 (hval 1 3 v1 rfl rfl) h1
  obtain ⟨d, rfl, rfl, rfl, e3⟩ := open_int Tryd.underlying3 (hval 3 3 v3 rfl rfl) h3
  obtain ⟨a2, n2, c2, rfl⟩ := okWide_slice Tryd.underlying22 (hval 2 22 v2 rfl rfl)
  have hL1 : laidMet Tryd.prog Rows.dayGridsRow.laid W := by rw [← MakeChecks.laidMetH_plain _ _ _ (by kernel_rfl)]; exact hL
  have ht : Tab W := dg_tab hL1
  have htd : TabD W := dg_dtab (laidMet.tail hL1)
  obtain ⟨l, hl⟩ := ints_came h2 lt2 (fun elems spare he => by
    subst he
    have := sized_slice hsz (j := 2) (t := 22) (e := 3) rfl rfl Tryd.underlying22
    rw [dg_bytes] at this
    exact this)
  obtain ⟨A2, q2, e2, hr2⟩ := hl.sl
  simp only [Value.slice.injEq] at e2
  obtain ⟨rfl, rfl, rfl⟩ := e2
  clear hA0 hL1
  refine (dayGrids_any y m d l _ _ W ht htd hl).mono fun e W' ⟨he, bel⟩ => ?_
  subst he
  exact ⟨_, rfl, _, _, _, [], _, [], hW', trodAll_mk1 (shut_bool Tryd.underlying4 _),
    trodAll_cons_mk (shut_int Tryd.underlying3 e0) (trodAll_cons_mk (shut_int Tryd.underlying3 e1) (trodAll_cons_mk (Below.trod dg_laidOut (by kernel_rfl) (of_decide_eq_true (by kernel_rfl)) k2 bel lt2) (trodAll_cons_mk (shut_int Tryd.underlying3 e3) trodAll_mk0))), rfl, bel.frame _, fun h => by cases h⟩

set_option maxRecDepth 100000 in
theorem dg_lifted (os : Os) (started : os.Started) (H : Type) (enc : TypeId × Value → H) (F : Stop.Interp) :
    ReturnsInHanded {} Tryd.checked os 3 .any ((OpenSpec.ofChange Rows.dayGridsSpec).preRow enc Tryd.prog Tryd.f3 Rows.dayGridsRow.domain false Rows.dayGridsRow.laid) (((OpenSpec.ofChange Rows.dayGridsSpec).at F).post enc Tryd.prog Tryd.f3 false true false false) := by
  obtain ⟨places, hx⟩ := dg_reads os enc
  refine returnsInHanded_of_row (C := Tryd.checked) (s := OpenSpec.ofChange Rows.dayGridsSpec) dg_own started (by kernel_rfl) Tryd.func3
    (witness_row_atRef (enc := enc) (C := Tryd.checked) false (World.doorLaid Tryd.prog 4000 os) #[.int .i64 0, .int .i64 0, .slice none 0 0, .int .i64 0] rfl (by kernel_rfl) (by kernel_rfl) (by kernel_rfl)
      (OpenSpec.preRow_of_cond 8 hx (by kernel_rfl) (fun k hk => by cases hk) (by kernel_rfl) (dg_met os _))) ?_
  intro W base args ds gs before hval hW _ _ hsz hL _ _
  exact dg_contract H enc W base args ds gs before hval hW hsz hL

theorem dayGrids_said : Rows.DayGridsSaid :=
  OpenClaim.holds_of_cond 3 Tryd.f3 rfl rfl rfl rfl rfl rfl rfl ⟨rfl, rfl, rfl, rfl, rfl⟩ rfl rfl rfl rfl rfl (by kernel_rfl) Tryd.func3 (by kernel_rfl)
    (of_decide_eq_true (by kernel_rfl)) (by unfold Func.isWrapper; first | (rw [if_pos (by decide +kernel)]; kernel_rfl) | (rw [if_neg (by decide +kernel)]; exact ⟨rfl, rfl⟩))
    (fun os started H enc _ F => by rw [OpenClaim.pre_eq_preRow]; exact dg_lifted os started H enc F)

theorem dg_plain (f : FuncId) (fn : Func) (hf : Tryd.pinned.checked.prog.funcNamed "florilegium/florlaw2.DayGrids" = some f) (hfn : Tryd.pinned.checked.prog.funcs[f]? = some fn) :
    true = Tryd.pinned.checked.prog.looks [] ∧ ∀ (j : Nat) t, fn.params[j]? = some t → Tryd.pinned.checked.prog.wantsStandIn t = false := by
  obtain rfl : f = 3 := Option.some.inj ((show Tryd.prog.funcNamed "florilegium/florlaw2.DayGrids" = some 3 by kernel_rfl).symm.trans hf) |>.symm
  obtain rfl : fn = Tryd.f3 := (Option.some.inj (Tryd.func3.symm.trans hfn)).symm
  refine ⟨by kernel_rfl, fun j t ht => ?_⟩
  rw [Tryd.params3] at ht
  have hm : t ∈ [3, 3, 22, 3] := by simpa using Array.mem_of_getElem? ht
  have hall : ([3, 3, 22, 3].all fun u => !Tryd.prog.wantsStandIn u) = true := by kernel_rfl
  exact (show Tryd.prog.wantsStandIn t = false by simpa using List.all_eq_true.1 hall t hm)

/-- The card. -/
theorem dayGrids_card : Rows.DayGridsCardSaid :=
  Claim7.holds_tied_plain_at .later [] _ _ _ _ dayGrids_said (fun _ h => by cases h) (by kernel_rfl) (fun _ h => by cases h) dayGrids_row_tie rfl ⟨rfl, rfl⟩ (by kernel_rfl) rfl dg_plain (by kernel_rfl)
#print axioms dayGrids_card
end Go.Proofs.YtfpiannnggkdiaaDoor
