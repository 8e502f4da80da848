/- For every string, every list of edits and every second string (whatever lies in memory, within the form's own reach), the law TextEdits returns true and leaves its arguments as they were: CheckEdit, Apply, Inverse, Compose and Diff of package text answer as the reference does. -/
import Derived.Test.YtjfpaahidfhkoaaEdH
import Derived.WalkKit
import Derived.ProofKit
import Derived.OpenShut
import Derived.ChangeOld
import Derived.Below
import Derived.SizedLaws
import Derived.Lib.SmallJoins
import Derived.Deep.Slices
import Derived.Deep.Fields
namespace Go.Proofs.Ytjfpaahidfhkoaa
open Go.ChangeShapes Go.WideShapes Go.ChangeAt Go.RowKit Go.Joins
open Go.ChangeMaps (open_string)

theorem edits_own : ownKnob Try.prog.godebug = none := by kernel_rfl
theorem edits_laidOut : laidOutB Try.prog = true := by kernel_rfl
theorem edits_cells : Try.prog.cellsOf 24 = 3 := by kernel_rfl
theorem edits_bytes : Try.prog.bytesOf 24 = 32 := by kernel_rfl
theorem edits_fields : ∃ f0 f1 f2 : Field, Try.prog.underlying 24 = some (.struct #[f0, f1, f2]) ∧ Deep.oneCellFields Try.prog #[f0, f1, f2] = true ∧ f0.type = 3 ∧ f1.type = 3 ∧ f2.type = 9 :=
  ⟨_, _, _, Try.underlying24, by kernel_rfl, rfl, rfl, rfl⟩

/-- A slice of structs of one-cell fields that came in, opened to its cells. -/
theorem open_rows {H : Type} {enc : TypeId × Value → H} {P : Program} {w : World} {base : Nat} {spare : Nat → Bool} {held : Bool} {t e : TypeId} {fs : Array Field} {fuel : Nat} {cs : List Value} {x : DataW H × List MemPlace} (ht : P.underlying t = some (.slice e)) (he : P.underlying e = some (.struct fs))
    (hone : Deep.oneCellFields P fs = true) (hC : P.cellsOf e = fs.size) (h : DataW.trod enc P w base spare held fuel t cs = some x) :
    (cs = [.slice none 0 0] ∧ x = (.nil, [])) ∨
    ∃ (a : Addr) (len cap m : Nat) (D : Nat → DataW H) (Pl : Nat → List MemPlace), cs = [.slice (some a) len cap] ∧ len ≤ cap ∧ m = (if spare a.block then cap else len) ∧
      x = (.slice ((List.range len).map D) ((List.range (m - len)).map fun j => D (len + j)), MemPlace.row a (m * fs.size) ++ (List.range m).flatMap Pl) ∧
      ∀ i, i < m → ∃ (ys : List (DataW H × List MemPlace)) (n : Nat), D i = .agg (ys.map (·.1)) ∧ ys.length = fs.size ∧
        ∀ (j : Nat) (f : Field), fs[j]? = some f → ∃ (v : Value) (y : DataW H × List MemPlace), w.cell? (a.add (i * fs.size + j)) = some v ∧ ys[j]? = some y ∧ DataW.trod enc P w base spare held n f.type [v] = some y := by
  rcases Deep.open_slice ht h with h0 | ⟨a, len, cap, m, n, D, Pl, hcs, hb, hl, hm, hmm, hx, hi⟩
  · exact .inl h0
  · refine .inr ⟨a, len, cap, m, D, Pl, hcs, hl, hmm, by rw [hC] at hx; exact hx, fun i him => ?_⟩
    obtain ⟨cs', hc, ht'⟩ := hi i him
    rw [hC] at hc
    obtain ⟨ys, n', hn', hy, hlen, hyl, hf⟩ := DataW.trod_struct he ht'
    obtain ⟨_, hcl, hat⟩ := World.cells?_some hc
    simp only [Prod.mk.injEq] at hy
    refine ⟨ys, n', hy.1, hyl, fun j f hj => ?_⟩
    obtain ⟨ho, hk⟩ := Deep.hone_of hone j f hj
    have hjl : j < fs.size := (Array.getElem?_eq_some_iff.1 hj).1
    have hcell := hat j hjl
    have hv : cs'[j]? = some (cs'[j]'(by omega)) := List.getElem?_eq_getElem (by omega)
    have h1 := hf j f hj
    rw [ho, hk] at h1
    have hone' : (cs'.drop j).take 1 = [cs'[j]'(by omega)] := by
      rw [List.drop_eq_getElem_cons (by omega)]
      rfl
    rw [hone'] at h1
    have hys : ys[j]? = some (ys[j]'(by omega)) := List.getElem?_eq_getElem (by omega)
    refine ⟨_, _, ?_, hys, h1.trans hys⟩
    rw [← Deep.add_add, hcell, hv]

theorem weightsAll_mem {H : Type} {P : Program} {e : TypeId} : ∀ {l : List (DataW H)} {d : DataW H}, d ∈ l → ∀ n ∈ d.weights P e, n ∈ DataW.weightsAll P e l
  | a :: r, d, hd, n, hn => by
    rw [DataW.weightsAll, List.mem_append]
    rcases List.mem_cons.1 hd with rfl | hd
    · exact .inl hn
    · exact .inr (weightsAll_mem hd n hn)

def numAt (v : Option Value) : Int := match v with | some (.int _ n) => n | _ => 0
def strAt (v : Option Value) : ByteArray := match v with | some (.string s) => s | _ => ByteArray.empty

set_option maxRecDepth 100000 in
/-- A slice of edits that came in. -/
theorem edits_came {H : Type} {enc : TypeId × Value → H} {W : World} {sp : Nat → Bool} {hd : Bool} {a0 : Option Addr} {len cap : Nat} {d : DataW H} {p : List MemPlace}
    (h : DataW.Trod enc Try.prog W 0 sp hd 22 (.slice a0 len cap) d p) (hp : ∀ x ∈ p, x.block < W.heap.size)
    (hr : ∀ n ∈ d.weights Try.prog 22, n ≤ reachBytes) : ∃ l : List (Int × Int × ByteArray), l.length = len ∧ EditsAt W W.heap.size a0 l ∧ l.length * 32 ≤ 140737488351232 := by
  obtain ⟨fuel, hf⟩ := h
  obtain ⟨f0, f1, f2, hS, hone, q0, q1, q2⟩ := edits_fields
  rcases open_rows Try.underlying22 hS hone edits_cells hf with ⟨hcs, _⟩ | ⟨a, l', c', m, D, Pl, hcs, hl, hm, hx, hi⟩
  · simp [Value.cells] at hcs
    obtain ⟨rfl, rfl, rfl⟩ := hcs
    exact ⟨[], rfl, fun k f t x hk => by simp at hk, by simp⟩
  · simp [Value.cells] at hcs
    obtain ⟨rfl, rfl, rfl⟩ := hcs
    simp only [Prod.mk.injEq] at hx
    obtain ⟨rfl, rfl⟩ := hx
    have hlm : len ≤ m := by rw [hm]; split <;> omega
    have hrow : ∀ i, i < m → ∃ (f t : Int) (x : ByteArray), W.cell? (a.add (i * 3)) = some (.int .i64 f) ∧ W.cell? (a.add (i * 3 + 1)) = some (.int .i64 t) ∧ W.cell? (a.add (i * 3 + 2)) = some (.string x) ∧
        D i = .agg [.lit (.int .i64 f), .lit (.int .i64 t), .lit (.string x.data.toList)] := by
      intro i him
      obtain ⟨ys, n, hD, hyl, hfield⟩ := hi i him
      obtain ⟨v0, y0, hc0, hy0, ht0⟩ := hfield 0 f0 rfl
      obtain ⟨v1, y1, hc1, hy1, ht1⟩ := hfield 1 f1 rfl
      obtain ⟨v2, y2, hc2, hy2, ht2⟩ := hfield 2 f2 rfl
      rw [q0] at ht0
      rw [q1] at ht1
      rw [q2] at ht2
      obtain ⟨f, e0, rfl, _⟩ := DataW.trod_int Try.underlying3 ht0
      obtain ⟨t, e1, rfl, _⟩ := DataW.trod_int Try.underlying3 ht1
      obtain ⟨x, e2, rfl, _⟩ := DataW.trod_string Try.underlying9 ht2
      simp at e0 e1 e2
      subst e0 e1 e2
      have hys : ys = [(.lit (.int .i64 f), []), (.lit (.int .i64 t), []), (.lit (.string x.data.toList), [])] := by
        match ys, hyl with
        | [z0, z1, z2], _ =>
          simp at hy0 hy1 hy2
          rw [hy0, hy1, hy2]
      exact ⟨f, t, x, hc0, hc1, hc2, by rw [hD, hys]; rfl⟩
    refine ⟨(List.range len).map fun i => (numAt (W.cell? (a.add (i * 3))), numAt (W.cell? (a.add (i * 3 + 1))), strAt (W.cell? (a.add (i * 3 + 2)))), by simp, ?_, ?_⟩
    · intro k f t x hk
      rw [List.getElem?_map] at hk
      obtain ⟨i, hki, he⟩ := Option.map_eq_some_iff.1 hk
      obtain ⟨hlt0, hke⟩ := List.getElem?_eq_some_iff.1 hki
      have hlt : k < len := by simpa using hlt0
      simp at hke
      subst hke
      obtain ⟨f', t', x', c0, c1, c2, hD⟩ := hrow k (by omega)
      rw [c0, c1, c2] at he
      simp only [numAt, strAt, Prod.mk.injEq] at he
      obtain ⟨rfl, rfl, rfl⟩ := he
      obtain ⟨b, off, spot⟩ := a
      have hspot : spot = none := by
        obtain ⟨_, _, _, z0, _⟩ := hrow 0 (by omega)
        simpa [Addr.add] using World.cell?_spot z0
      subst hspot
      rw [add_plain] at c0 c1 c2
      refine ⟨b, off, rfl, World.block_lt_of_cell? W _ c0, c0, by rw [Nat.add_assoc]; exact c1, by rw [Nat.add_assoc]; exact c2, ?_⟩
      have hw : x'.data.toList.length ∈ (D k).weights Try.prog 24 := by
        rw [hD]
        simp [DataW.weights, hS, DataW.weightsEach, q2]
      have hmem : D k ∈ (List.range len).map D := List.mem_map.2 ⟨k, List.mem_range.2 hlt, rfl⟩
      have := hr _ (by simp only [DataW.weights, Try.underlying22]; exact List.mem_cons_of_mem _ (List.mem_append.2 (.inl (weightsAll_mem hmem _ hw))))
      simpa [reachBytes] using this
    · have := hr _ (by simp only [DataW.weights, Try.underlying22]; exact List.mem_cons_self)
      rw [edits_bytes] at this
      simp only [List.length_map, List.length_range, reachBytes] at this ⊢
      omega

set_option maxRecDepth 100000 in
theorem textEdits_lifted (os : Os) (started : os.Started) (H : Type) (enc : TypeId × Value → H) :
    ReturnsInHanded {} Try.checked os 3 .any (Rows.textEditsSpec.pre6 enc Try.prog Try.f3 Rows.textEditsRow.domain false) (Rows.textEditsSpec.post enc Try.prog Try.f3 false true false false) := by
  refine returnsInHanded_of_change_sized (C := Try.checked) edits_own started (by kernel_rfl) Try.func3
    (ChangeSpec.witness6 (enc := enc) (C := Try.checked) false ⟨#[], #[.string ByteArray.empty, .slice none 0 0, .string ByteArray.empty], []⟩ 8 (by kernel_rfl) (by kernel_rfl) (by kernel_rfl) (by kernel_rfl)) ?_
  intro W base args ds gs before hval0 hW hcnd hsz0 _
  have hsz : (DataW.weightsEach Try.prog (Try.f3.params.toList ++ Rows.textEditsSpec.plain.varTypes Try.prog) (ds ++ gs)).all (· ≤ reachBytes) = true := hsz0
  clear hsz0
  have hval : ∀ (j : Nat) t v, Try.f3.params[j]? = some t → args[j]? = some v → Value.okWide Try.prog W .any base t v := hval0
  have hW' := hW
  obtain ⟨p, q, hA0, hV, rfl, hfz, hnd⟩ := hW
  have hA : DataW.TrodAll enc Try.prog W 0 (fun _ => true) true Try.f3.params.toList args.toList ds p := hA0
  rw [Try.params3] at hA hval hsz
  obtain ⟨v0, v1, v2, d0, d1, d2, p0, p1, p2, rfl, rfl, rfl, h0, h1, h2⟩ := trodAll_three hA
  obtain ⟨rfl, rfl⟩ := trodVars_none hV
  have lt0 : ∀ x ∈ p0, x.block < W.heap.size := by obtain ⟨m, hm⟩ := h0; exact DataW.trod_lt m _ _ _ hm
  have lt1 : ∀ x ∈ p1, x.block < W.heap.size := by obtain ⟨m, hm⟩ := h1; exact DataW.trod_lt m _ _ _ hm
  have lt2 : ∀ x ∈ p2, x.block < W.heap.size := by obtain ⟨m, hm⟩ := h2; exact DataW.trod_lt m _ _ _ hm
  have k0 := h0
  have k1 := h1
  have k2 := h2
  have r1 : ∀ n ∈ d1.weights Try.prog 22, n ≤ reachBytes := fun n hn => by
    simpa using List.all_eq_true.1 hsz _ (DataW.weights_mem_each (j := 1) rfl rfl n hn)
  obtain ⟨a1, len, cap, rfl⟩ := okWide_slice Try.underlying22 (hval 1 22 v1 rfl rfl)
  obtain ⟨l, rfl, hl, hn⟩ := edits_came h1 lt1 r1
  obtain ⟨s, rfl, rfl, rfl, _⟩ := open_string Try.underlying9 (hval 0 9 v0 rfl rfl) h0
  obtain ⟨b, rfl, rfl, rfl, _⟩ := open_string Try.underlying9 (hval 2 9 v2 rfl rfl) h2
  have hs : s.size ≤ 140737488351232 := by
    have := sized_string hsz (j := 0) rfl rfl
    simpa [reachBytes] using this
  have hb : b.size ≤ 140737488351232 := by
    have := sized_string hsz (j := 2) rfl rfl
    simpa [reachBytes] using this
  clear hA0 hval0
  have walk : Calls Try.prog 3 #[.string s, .slice a1 l.length cap, .string b] W fun e w' => e = .returned (.bool true) ∧ Below W.heap.size W w' := by
    by_cases h100 : 100 < l.length
    · exact textEdits_many s a1 cap l b W hs hb hl hn h100
    · exact textEdits_few s a1 cap l b W hs hb hl hn h100
  refine walk.mono fun e W' ⟨he, bel⟩ => ?_
  subst he
  exact ⟨_, rfl, _, _, _, [], _, [], hW', trodAll_mk1 (shut_bool Try.underlying4 _),
    trodAll_cons_mk (Below.trod edits_laidOut (by kernel_rfl) (of_decide_eq_true (by kernel_rfl)) k0 bel lt0)
      (trodAll_cons_mk (Below.trod edits_laidOut (by kernel_rfl) (of_decide_eq_true (by kernel_rfl)) k1 bel lt1)
        (trodAll_cons_mk (Below.trod edits_laidOut (by kernel_rfl) (of_decide_eq_true (by kernel_rfl)) k2 bel lt2) trodAll_mk0)), rfl, bel.frame _, fun h => by cases h⟩

theorem textEdits_holds : Rows.TextEditsSaid :=
  OpenClaim.holds_of_wide 3 Try.f3 rfl rfl rfl rfl rfl rfl rfl ⟨rfl, rfl, rfl, rfl, rfl⟩ rfl rfl rfl rfl rfl (by kernel_rfl) Try.func3 (by kernel_rfl)
    (of_decide_eq_true (by kernel_rfl)) (by unfold Func.isWrapper; first | (rw [if_pos (by decide +kernel)]; kernel_rfl) | (rw [if_neg (by decide +kernel)]; exact ⟨rfl, rfl⟩))
    (fun os started H enc _ => textEdits_lifted os started H enc)
#print axioms textEdits_holds
end Go.Proofs.Ytjfpaahidfhkoaa
