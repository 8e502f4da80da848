/- A set of days as a map of booleans. -/
import Derived.Test.YtfpiannnggkdiaaDoorGrA
import Derived.Maps.OwnOps
import Derived.Maps.OwnSet
import Derived.Maps.Views
import Derived.WalkKit
import Derived.Lib.Hide
import Derived.Below
namespace Go.Proofs.YtfpiannnggkdiaaDoor
open Go.RowKit Go.Maps

/-- A slice of numbers, that is only read. -/
structure IntsAt (w : World) (B : Nat) (zs : List Int) (v : Value) : Prop where
  sl : ∃ A c, v = .slice A zs.length c ∧ (zs = [] ∨ ∃ b off, A = some ⟨b, off, none⟩ ∧ b < B ∧ ∀ j, j < zs.length → w.cell? ⟨b, off + j, none⟩ = some (.int .i64 (zs.getD j 0)))
  len : zs.length ≤ 17592186044416
  wf : ∀ n ∈ zs, (Lit.int .i64 n).wf = true
theorem IntsAt.below {w w' : World} {B : Nat} {zs : List Int} {v : Value} (h : IntsAt w B zs v) (hb : Below B w w') : IntsAt w' B zs v := by
  obtain ⟨A, c, e, h1⟩ := h.sl
  refine ⟨⟨A, c, e, ?_⟩, h.len, h.wf⟩
  rcases h1 with h1 | ⟨b, off, ea, hlt, hc⟩
  · exact .inl h1
  · exact .inr ⟨b, off, ea, hlt, fun j hj => (hb.cell (p := ⟨b, off + j, none⟩) hlt).trans (hc j hj)⟩
theorem getD_mem {zs : List Int} {j : Nat} (h : j < zs.length) : zs.getD j 0 ∈ zs := by
  rw [List.getD_eq_getElem?_getD, List.getElem?_eq_getElem h]
  exact List.getElem_mem h
theorem keyI : Keyed Tryd.prog 3 := int_keyed Tryd.underlying3
theorem zeroB (w : World) : (zeroValue 4).run Tryd.prog w = .ok (.bool false) w := by kernel_rfl
def intK (n : Int) : Lit := .int .i64 n
open Classical in
/-- A map that has true for each number of l, and no other. -/
structure SetIs (D : DataW Unit) (l : List Int) : Prop where
  isMap : IsMap D
  at_ : ∀ n, D.atKey (intK n) (.lit (.bool false)) = .lit (.bool (decide (n ∈ l)))
theorem setIs_nil : SetIs (.map []) [] := ⟨⟨[], rfl⟩, fun _ => by simp; rfl⟩
theorem SetIs.put {D : DataW Unit} {l : List Int} (h : SetIs D l) (x : Int) : SetIs (D.put (intK x) (.lit (.bool true))) (l ++ [x]) := by
  have hk : WideAt.IsKeyLit (intK x) := by unfold intK; first | exact trivial | exact ⟨_, _, rfl⟩ | simp [WideAt.IsKeyLit]
  refine ⟨IsMap.put h.isMap _ _, fun n => ?_⟩
  by_cases he : n = x
  · subst he
    rw [atKey_put_same h.isMap hk]
    simp
  · have hne : intK n ≠ intK x := fun e => he (by unfold intK at e; injection e)
    rw [atKey_put_other hne, h.at_ n]
    simp [he]
/-- 'm[k]' at elements that are booleans. -/
theorem wpList_lookup_own_bool {H : Type} {P : Program} (w : World) {ops : Array Oper} {rest : List Oper} {o : Oper} {a : Act} {Q : Exit → Act → World → Prop}
    (hg : o.guard = none) (m x : Operand) (t : TypeId) (hop : o.op = Op.lookup t m x false)
    (k e : TypeId) (K : Keyed P k) (ht : P.underlying t = some (.map k e)) (he : P.underlying e = some .bool) (hz : (zeroValue e).run P w = .ok (.bool false) w) (b n : Nat) (D : DataW H)
    (hm : a.eval m = .map (some b)) (hown : w.ownsMap P k (plainElem P e) b n D) (key : Value) (kl : Lit) (hx : a.eval x = key) (hkey : keyOf P k key = some kl) (c : Bool) (hc : D.atKey kl (.lit (.bool false)) = .lit (.bool c))
    (hK : wpList P ops Q rest (a.put o.dst (.bool c)) w) :
    wpList P ops Q (o :: rest) a w := by
  refine wpList_plain hg fun K' hK' => ?_
  obtain ⟨v, ps, hrun, hv⟩ := hown.lookup K ht hz (plainElem_bool he false) hkey
  have hvb : v = .bool c := by
    rw [hc] at hv
    unfold plainElem at hv
    rw [he] at hv
    cases v <;> simp at hv
    rw [hv.1]
  subst hvb
  unfold Oper.wp
  simp [execOp, hop, hm, hx, hrun, Result.andThen]
  exact hK' _ _ hK
end Go.Proofs.YtfpiannnggkdiaaDoor
