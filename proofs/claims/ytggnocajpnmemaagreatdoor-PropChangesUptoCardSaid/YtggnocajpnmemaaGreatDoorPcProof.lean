/- For every list of properties, name and value that are together of bulk at most 1048576 (whatever else lies in memory, within the form's own reach, the tables of unicode/utf8 as the program's text and the library's lay them), the law PropChanges returns true and leaves its arguments as they were: Get, Put and Drop give what the reference gives. -/
import Derived.Test.YtggnocajpnmemaaGreatDoorLwX
import Derived.Test.YtggnocajpnmemaaGreatDoorCards
import Derived.Test.YtggnocajpnmemaaGreatDoorTie
import Derived.WalkKit
import Derived.ProofKit
import Derived.OpenShut
import Derived.ChangeOld
import Derived.ChangeMaps5
import Derived.Below
import Derived.SizedLaws
import Derived.Lib.SmallJoins
import Derived.MakeChecks
import Derived.Deep.DeepHandedRow
import Derived.Deep.DeepWitnessRowRef
import Derived.LaidMore
import Derived.Lay
import Derived.Stop.Joined
namespace Go.Proofs.YtggnocajpnmemaaGreatDoor
open Go.ChangeShapes Go.WideShapes Go.ChangeAt Go.RowKit Go.Joins
open Go.ChangeMaps (open_string)

theorem pc_own : ownKnob Tryz.prog.godebug = none := by kernel_rfl
theorem pc_laidOut : laidOutB Tryz.prog = true := by kernel_rfl
theorem pc_met (os : Os) (args : Array Value) : laidMetH Tryz.prog Rows.propChangesUptoRow.laid ((World.laidAll Tryz.prog os Rows.propChangesUptoRow.laid).forCall (fun _ _ => 0) ⟨#[], args, []⟩).memory :=
  (by rw [MakeChecks.laidMetH_plain _ _ _ (by kernel_rfl)]; exact laidMet_laidAll _ (by kernel_rfl) (by kernel_rfl))
noncomputable def pc_none : Value := .agg #[.int .i64 0, .int .i64 0, .int .i64 0, .string ByteArray.empty, .slice none 0 0]
def pc_zero {H : Type} : DataW H := .agg [.lit (.int .i64 0), .lit (.int .i64 0), .lit (.int .i64 0), .lit (.string []), .nil]
theorem pc_reads (os : Os) {H : Type} (enc : TypeId × Value → H) : ∃ places, DataW.whole enc Tryz.prog ((World.laidAll Tryz.prog os Rows.propChangesUptoRow.laid).forCall (fun _ _ => 0) ⟨#[], #[.slice none 0 0, .string ByteArray.empty, pc_none], []⟩).memory Tryz.f5.params.toList Rows.propChangesSpec.vars false #[Value.slice none 0 0, .string ByteArray.empty, pc_none].toList 8 =
    some ([.nil, .lit (.string []), pc_zero], [], places) := ⟨[], by kernel_rfl⟩

set_option maxRecDepth 100000 in
theorem pc_contract (H : Type) (enc : TypeId × Value → H) (W : World) (base : Nat) (args : Array Value) (ds gs : List (DataW H)) (before : List MemPlace)
    (hval : ∀ (j : Nat) t v, Tryz.f5.params[j]? = some t → args[j]? = some v → Value.okWide Tryz.prog W .any base t v)
    (hW : DataW.Whole enc Tryz.prog Tryz.f5.params.toList Rows.propChangesSpec.vars false W args.toList ds gs before)
    (hk : Rows.uptoSmall H (ds ++ gs) = true) :
    Calls Tryz.prog 5 args W fun e W' => ∃ v, e = .returned v ∧ Rows.propChangesSpec.post enc Tryz.prog Tryz.f5 false true false false W args v W' := by
  have hW' := hW
  obtain ⟨p, q, hA0, hV, rfl, hfz, hnd⟩ := hW
  have hA : DataW.TrodAll enc Tryz.prog W 0 (fun _ => true) true Tryz.f5.params.toList args.toList ds p := hA0
  rw [Tryz.params5] at hA hval
  obtain ⟨v0, v1, v2, d0, d1, d2, p0, p1, p2, rfl, rfl, rfl, h0, h1, h2⟩ := trodAll_three hA
  obtain ⟨rfl, rfl⟩ := trodVars_none hV
  have lt0 : ∀ x ∈ p0, x.block < W.heap.size := by obtain ⟨m, hm⟩ := h0; exact DataW.trod_lt m _ _ _ hm
  have lt1 : ∀ x ∈ p1, x.block < W.heap.size := by obtain ⟨m, hm⟩ := h1; exact DataW.trod_lt m _ _ _ hm
  have lt2 : ∀ x ∈ p2, x.block < W.heap.size := by obtain ⟨m, hm⟩ := h2; exact DataW.trod_lt m _ _ _ hm
  have k0 := h0
  have k1 := h1
  have k2 := h2
  have hb : Rows.uptoBulk d0 + (Rows.uptoBulk d1 + (Rows.uptoBulk d2 + 0)) ≤ 1048576 := by
    have := of_decide_eq_true hk
    simpa only [List.append_nil, Rows.uptoBulkAll] using this
  obtain ⟨a0, n0, c0, rfl⟩ := okWide_slice Tryz.underlying31 (hval 0 31 v0 rfl rfl)
  obtain ⟨q, rfl, rfl, rfl, _⟩ := open_string Tryz.underlying9 (hval 1 9 v1 rfl rfl) h1
  obtain ⟨f0', f1', f2', f3', f4', hS, -⟩ := val_fields
  obtain ⟨cs, rfl, hcs⟩ := okWide_struct hS (hval 2 24 v2 rfl rfl)
  obtain ⟨f0, hf0⟩ := h0
  obtain ⟨f2, hf2⟩ := h2
  obtain ⟨l, g0, e0, hl, hN, hll⟩ := props_came f0 _ d0 p0 hf0 (by omega)
  obtain ⟨k, i, t, s, lx, g, e2, hs, hsl, hno⟩ := value_of f2 _ d2 p2 hf2 (by omega)
  simp [Value.cells] at e0 e2
  subst e0
  obtain ⟨A0, q0, e0, hl0⟩ := hl
  simp only [Value.slice.injEq] at e0
  obtain ⟨rfl, rfl, rfl⟩ := e0
  obtain ⟨A2, c2, rfl, hr2⟩ := hsl
  have ec : cs = #[.int .i64 k, .int .i64 i, .int .i64 t, .string s, .slice A2 lx.length c2] := by
    obtain ⟨cl⟩ := cs
    simp at e2
    rw [e2]
  subst ec
  simp only [Rows.uptoBulk] at hb
  have es : q.size = q.data.toList.length := by rw [Array.length_toList]; rfl
  clear hA0
  refine (law_any l q _ _ k i t s lx A2 c2 W ⟨_, _, rfl, hl0⟩ hN ⟨A2, c2, rfl, hr2⟩ (by omega) ⟨by omega, hs⟩ hll).mono fun e W' ⟨he, bel⟩ => ?_
  subst he
  exact ⟨_, rfl, _, _, _, [], _, [], hW', trodAll_mk1 (shut_bool Tryz.underlying4 _),
    trodAll_cons_mk (Below.trod pc_laidOut (by kernel_rfl) (of_decide_eq_true (by kernel_rfl)) k0 bel lt0)
      (trodAll_cons_mk (Below.trod pc_laidOut (by kernel_rfl) (of_decide_eq_true (by kernel_rfl)) k1 bel lt1)
        (trodAll_cons_mk (Below.trod pc_laidOut (by kernel_rfl) (of_decide_eq_true (by kernel_rfl)) k2 bel lt2) trodAll_mk0)), rfl, bel.frame _, fun h => by cases h⟩

set_option maxRecDepth 100000 in
theorem pc_lifted (os : Os) (started : os.Started) (H : Type) (enc : TypeId × Value → H) (F : Stop.Interp) :
    ReturnsInHanded {} Tryz.checked os 5 .any ((Rows.OpenSpec.upto Rows.propChangesSpec).preRow enc Tryz.prog Tryz.f5 Rows.propChangesUptoRow.domain false Rows.propChangesUptoRow.laid) (((Rows.OpenSpec.upto Rows.propChangesSpec).at F).post enc Tryz.prog Tryz.f5 false true false false) := by
  obtain ⟨places, hx⟩ := pc_reads os enc
  refine returnsInHanded_of_row (C := Tryz.checked) (s := Rows.OpenSpec.upto Rows.propChangesSpec) pc_own started (by kernel_rfl) Tryz.func5
    (witness_row_atRef (enc := enc) (C := Tryz.checked) false (World.laidAll Tryz.prog os Rows.propChangesUptoRow.laid) #[.slice none 0 0, .string ByteArray.empty, pc_none] (World.laidAll_os _ _ _) (by kernel_rfl) (by kernel_rfl) (by kernel_rfl)
      (OpenSpec.preRow_of_cond 8 hx (by kernel_rfl) (fun k hk => by cases hk; kernel_rfl) (by kernel_rfl) (pc_met os _))) ?_
  intro W base args ds gs before hval hW h1 h2 h3 hL _ _
  have hcond := h2
  exact pc_contract H enc W base args ds gs before hval hW (hcond _ rfl)

theorem propChanges_said : Rows.PropChangesUptoSaid :=
  OpenClaim.holds_of_cond 5 Tryz.f5 rfl rfl rfl rfl rfl rfl rfl ⟨rfl, rfl, rfl, rfl, rfl⟩ rfl rfl rfl rfl rfl (by kernel_rfl) Tryz.func5 (by kernel_rfl)
    (of_decide_eq_true (by kernel_rfl)) (by unfold Func.isWrapper; first | (rw [if_pos (by decide +kernel)]; kernel_rfl) | (rw [if_neg (by decide +kernel)]; exact ⟨rfl, rfl⟩))
    (fun os started H enc _ F => by rw [OpenClaim.pre_eq_preRow]; exact pc_lifted os started H enc F)

theorem pc_plain (f : FuncId) (fn : Func) (hf : Tryz.pinned.checked.prog.funcNamed "florilegium/florlaw2.PropChanges" = some f) (hfn : Tryz.pinned.checked.prog.funcs[f]? = some fn) :
    true = Tryz.pinned.checked.prog.looks [] ∧ ∀ (j : Nat) t, fn.params[j]? = some t → Tryz.pinned.checked.prog.wantsStandIn t = false := by
  obtain rfl : f = 5 := Option.some.inj ((show Tryz.prog.funcNamed "florilegium/florlaw2.PropChanges" = some 5 by kernel_rfl).symm.trans hf) |>.symm
  obtain rfl : fn = Tryz.f5 := (Option.some.inj (Tryz.func5.symm.trans hfn)).symm
  refine ⟨by kernel_rfl, fun j t ht => ?_⟩
  rw [Tryz.params5] at ht
  have hm : t ∈ [31, 9, 24] := by simpa using Array.mem_of_getElem? ht
  have hall : ([31, 9, 24].all fun u => !Tryz.prog.wantsStandIn u) = true := by kernel_rfl
  exact (show Tryz.prog.wantsStandIn t = false by simpa using List.all_eq_true.1 hall t hm)

/-- The card. -/
theorem propChanges_card : Rows.PropChangesUptoCardSaid :=
  Claim7.holds_tied_plain_at .later [] _ _ _ _ propChanges_said (fun _ h => by cases h) (by kernel_rfl) (fun _ h => by cases h) propChangesUpto_row_tie rfl ⟨rfl, rfl⟩ (by kernel_rfl) rfl pc_plain (by kernel_rfl)
#print axioms propChanges_card
end Go.Proofs.YtggnocajpnmemaaGreatDoor
