/- Values that came in, opened to trees. -/
import Derived.Test.YtkidjhdfpdecoaaValB
import Derived.Test.YtkidjhdfpdecoaaRows
import Derived.WalkKit
import Derived.ProofKit
import Derived.OpenShut
import Derived.ChangeOld
import Derived.SizedLaws
import Derived.Lib.SmallJoins
import Derived.Deep.Slices
import Derived.Deep.Fields
namespace Go.Proofs.Ytkidjhdfpdecoaa.Vl
open Go.ChangeShapes Go.WideShapes Go.ChangeAt Go.RowKit Go.Joins
open Go.Proofs.Ytkidjhdfpdecoaa.Vals

theorem val_cells : Try.prog.cellsOf 24 = 5 := by kernel_rfl
theorem val_fields : ∃ f0 f1 f2 f3 f4 : Field, Try.prog.underlying 24 = some (.struct #[f0, f1, f2, f3, f4]) ∧ Deep.oneCellFields Try.prog #[f0, f1, f2, f3, f4] = true ∧ f0.type = 3 ∧ f1.type = 3 ∧ f2.type = 3 ∧ f3.type = 9 ∧ f4.type = 22 :=
  ⟨_, _, _, _, _, Try.underlying24, by kernel_rfl, rfl, rfl, rfl, rfl, rfl⟩

/-- A slice of structs of one-cell fields that came in, opened to its cells. -/
theorem open_rows {H : Type} {enc : TypeId × Value → H} {P : Program} {w : World} {base : Nat} {spare : Nat → Bool} {held : Bool} {t e : TypeId} {fs : Array Field} {fuel : Nat} {cs : List Value} {x : DataW H × List MemPlace} (ht : P.underlying t = some (.slice e)) (he : P.underlying e = some (.struct fs))
    (hone : Deep.oneCellFields P fs = true) (hC : P.cellsOf e = fs.size) (h : DataW.trod enc P w base spare held fuel t cs = some x) :
    (cs = [.slice none 0 0] ∧ x = (.nil, [])) ∨
    ∃ (a : Addr) (len cap m : Nat) (D : Nat → DataW H) (Pl : Nat → List MemPlace), cs = [.slice (some a) len cap] ∧ len ≤ cap ∧ m = (if spare a.block then cap else len) ∧
      x = (.slice ((List.range len).map D) ((List.range (m - len)).map fun j => D (len + j)), MemPlace.row a (m * fs.size) ++ (List.range m).flatMap Pl) ∧
      ∀ i, i < m → ∃ (ys : List (DataW H × List MemPlace)) (n : Nat), D i = .agg (ys.map (·.1)) ∧ ys.length = fs.size ∧
        ∀ (j : Nat) (f : Field), fs[j]? = some f → ∃ (v : Value) (y : DataW H × List MemPlace), w.cell? (a.add (i * fs.size + j)) = some v ∧ ys[j]? = some y ∧ DataW.trod enc P w base spare held n f.type [v] = some y := by
  rcases Deep.open_slice ht h with h0 | ⟨a, len, cap, m, n, D, Pl, hcs, hb, hl, hm, hmm, hx, hi⟩
  · exact .inl h0
  · refine .inr ⟨a, len, cap, m, D, Pl, hcs, hl, hmm, by rw [hC] at hx; exact hx, fun i him => ?_⟩
    obtain ⟨cs', hc, ht'⟩ := hi i him
    rw [hC] at hc
    obtain ⟨ys, n', hn', hy, hlen, hyl, hf⟩ := DataW.trod_struct he ht'
    obtain ⟨_, hcl, hat⟩ := World.cells?_some hc
    simp only [Prod.mk.injEq] at hy
    refine ⟨ys, n', hy.1, hyl, fun j f hj => ?_⟩
    obtain ⟨ho, hk⟩ := Deep.hone_of hone j f hj
    have hjl : j < fs.size := (Array.getElem?_eq_some_iff.1 hj).1
    have hcell := hat j hjl
    have hv : cs'[j]? = some (cs'[j]'(by omega)) := List.getElem?_eq_getElem (by omega)
    have h1 := hf j f hj
    rw [ho, hk] at h1
    have hone' : (cs'.drop j).take 1 = [cs'[j]'(by omega)] := by
      rw [List.drop_eq_getElem_cons (by omega)]
      rfl
    rw [hone'] at h1
    have hys : ys[j]? = some (ys[j]'(by omega)) := List.getElem?_eq_getElem (by omega)
    refine ⟨_, _, ?_, hys, h1.trans hys⟩
    rw [← Deep.add_add, hcell, hv]

theorem bulk_le {H : Type} {d : DataW H} {l : List (DataW H)} (h : d ∈ l) : Rows.uptoBulk d ≤ Rows.uptoBulkAll l := by
  induction l with
  | nil => simp at h
  | cons a r ih =>
    rw [Rows.uptoBulkAll]
    rcases List.mem_cons.1 h with rfl | h
    · omega
    · have := ih h; omega

theorem bulk_parts {H : Type} (a b c : Int) (s : List UInt8) (y : DataW H) : Rows.uptoBulk (DataW.agg [.lit (.int .i64 a), .lit (.int .i64 b), .lit (.int .i64 c), .lit (.string s), y]) = 6 + s.length + Rows.uptoBulk y - 1 := by
  simp only [Rows.uptoBulk, Rows.uptoBulkAll]
  omega

/-- The values of a row, from places on. -/
def tabV (V : Nat → Vals.V) : Nat → Nat → List Vals.V
  | _, 0 => []
  | i, n + 1 => V i :: tabV V (i + 1) n
theorem tabV_len (V : Nat → Vals.V) : ∀ i n, (tabV V i n).length = n
  | _, 0 => rfl
  | i, n + 1 => by simp [tabV, tabV_len V (i + 1) n]
theorem tabV_row {w : World} {B b off : Nat} (V : Nat → Vals.V) : ∀ n i, (∀ k, i ≤ k → k < i + n → CellsAt w B (V k) b (off + k * 5)) → RowAt w B (tabV V i n) b (off + i * 5)
  | 0, _, _ => by unfold tabV RowAt; trivial
  | n + 1, i, h => by
    unfold tabV RowAt
    refine ⟨h i (Nat.le_refl _) (by omega), ?_⟩
    have := tabV_row V n (i + 1) (fun k h1 h2 => h k (by omega) (by omega))
    rw [show off + i * 5 + 5 = off + (i + 1) * 5 by omega]
    exact this
theorem tabV_size {H : Type} (V : Nat → Vals.V) (D : Nat → DataW H) : ∀ n i, (∀ k, i ≤ k → k < i + n → sizeV (V k) ≤ Rows.uptoBulk (D k)) → sizeL (tabV V i n) ≤ Rows.uptoBulkAll ((List.range' i n).map D)
  | 0, _, _ => by unfold tabV sizeL; omega
  | n + 1, i, h => by
    have h0 := h i (Nat.le_refl _) (by omega)
    have := tabV_size V D n (i + 1) (fun k h1 h2 => h k (by omega) (by omega))
    simp only [tabV, sizeL, List.range'_succ, List.map_cons, Rows.uptoBulkAll]
    omega

theorem numAt_of {v : Value} {n : Int} (h : [v] = [.int .i64 n]) : v = .int .i64 n := by simpa using h

set_option maxRecDepth 100000 in
/-- A slice of values that came in. -/
theorem values_came {H : Type} {enc : TypeId × Value → H} {W : World} {sp : Nat → Bool} {hd : Bool} : ∀ (K fuel : Nat) (cs : List Value) (d : DataW H) (p : List MemPlace),
    DataW.trod enc Try.prog W 0 sp hd fuel 22 cs = some (d, p) → Rows.uptoBulk d ≤ K → K ≤ 1048576 →
    ∃ (l : List Vals.V) (g : Value), cs = [g] ∧ SlAt W W.heap.size l g ∧ sizeL l ≤ Rows.uptoBulk d := by
  intro K
  induction K with
  | zero =>
    intro fuel cs d p h hk
    have : 1 ≤ Rows.uptoBulk d := by cases d with
      | lit l => cases l <;> simp [Rows.uptoBulk]
      | _ => simp [Rows.uptoBulk]
    omega
  | succ K ih =>
    intro fuel cs d p h hk hK
    obtain ⟨f0, f1, f2, f3, f4, hS, hone, q0, q1, q2, q3, q4⟩ := val_fields
    rcases open_rows Try.underlying22 hS hone val_cells h with ⟨hcs, hx⟩ | ⟨a, len, cap, m, D, Pl, hcs, hl, hm, hx, hi⟩
    · refine ⟨[], _, hcs, ⟨none, 0, rfl, by simp, by simp, .inl rfl⟩, ?_⟩
      unfold sizeL; omega
    · simp only [Prod.mk.injEq] at hx
      obtain ⟨rfl, -⟩ := hx
      have hlm : len ≤ m := by rw [hm]; split <;> omega
      simp only [Rows.uptoBulk] at hk
      have hlen : ∀ n : Nat, n ≤ Rows.uptoBulkAll ((List.range n).map D) := by
        intro n
        have hh : ∀ l : List (DataW H), l.length ≤ Rows.uptoBulkAll l := by
          intro l
          induction l with
          | nil => simp
          | cons d r ih =>
            have : 1 ≤ Rows.uptoBulk d := by cases d with
              | lit l => cases l <;> simp [Rows.uptoBulk]
              | _ => simp [Rows.uptoBulk]
            simp only [Rows.uptoBulkAll, List.length_cons]; omega
        have := hh ((List.range n).map D)
        simpa using this
      have hl1 := hlen len
      have hspot : 0 < len → ∃ b off, a = ⟨b, off, none⟩ := by
        intro h0
        obtain ⟨ys, n, hD, hyl, hfield⟩ := hi 0 (by omega)
        obtain ⟨v0, y0, hc0, hy0, ht0⟩ := hfield 0 f0 rfl
        obtain ⟨b, off, spot⟩ := a
        have hspot : spot = none := by simpa [Addr.add] using World.cell?_spot hc0
        subst hspot
        exact ⟨b, off, rfl⟩
      have hrow : ∀ i, i < len → ∃ x : Vals.V, (∃ b off, a = ⟨b, off, none⟩ ∧ CellsAt W W.heap.size x b (off + i * 5)) ∧ sizeV x ≤ Rows.uptoBulk (D i) := by
        intro i hil
        have hsp := hspot (by omega)
        obtain ⟨ys, n, hD, hyl, hfield⟩ := hi i (by omega)
        obtain ⟨v0, y0, hc0, hy0, ht0⟩ := hfield 0 f0 rfl
        obtain ⟨v1, y1, hc1, hy1, ht1⟩ := hfield 1 f1 rfl
        obtain ⟨v2, y2, hc2, hy2, ht2⟩ := hfield 2 f2 rfl
        obtain ⟨v3, y3, hc3, hy3, ht3⟩ := hfield 3 f3 rfl
        obtain ⟨v4, y4, hc4, hy4, ht4⟩ := hfield 4 f4 rfl
        rw [q0] at ht0
        rw [q1] at ht1
        rw [q2] at ht2
        rw [q3] at ht3
        rw [q4] at ht4
        obtain ⟨k, e0, rfl, _⟩ := DataW.trod_int Try.underlying3 ht0
        obtain ⟨j, e1, rfl, _⟩ := DataW.trod_int Try.underlying3 ht1
        obtain ⟨t, e2, rfl, _⟩ := DataW.trod_int Try.underlying3 ht2
        obtain ⟨s, e3, rfl, _⟩ := DataW.trod_string Try.underlying9 ht3
        simp at e0 e1 e2 e3
        subst e0 e1 e2 e3
        have hys : ys = [(.lit (.int .i64 k), []), (.lit (.int .i64 j), []), (.lit (.int .i64 t), []), (.lit (.string s.data.toList), []), y4] := by
          match ys, hyl with
          | [z0, z1, z2, z3, z4], _ =>
            simp at hy0 hy1 hy2 hy3 hy4
            rw [hy0, hy1, hy2, hy3, hy4]
        have hbD : Rows.uptoBulk (D i) = 6 + s.data.toList.length + Rows.uptoBulk y4.1 - 1 := by
          rw [hD, hys]
          exact bulk_parts _ _ _ _ _
        have hmem : Rows.uptoBulk (D i) ≤ Rows.uptoBulkAll ((List.range len).map D) := bulk_le (List.mem_map.2 ⟨i, List.mem_range.2 hil, rfl⟩)
        obtain ⟨li, g, hg, hsl, hsz⟩ := ih n [v4] y4.1 y4.2 ht4 (by omega) (by omega)
        simp only [List.cons.injEq, and_true] at hg
        subst hg
        refine ⟨.mk k j t s li, ?_, ?_⟩
        · obtain ⟨b, off, rfl⟩ := hsp
          refine ⟨b, off, rfl, ?_⟩
          rw [add_plain] at hc0 hc1 hc2 hc3 hc4
          have hsz5 : (#[f0, f1, f2, f3, f4] : Array Field).size = 5 := rfl
          rw [hsz5] at hc0 hc1 hc2 hc3 hc4
          obtain ⟨A, c, rfl, s1, s2, s3⟩ := hsl
          unfold CellsAt
          exact ⟨World.block_lt_of_cell? W _ hc0, hc0, by rw [Nat.add_assoc]; exact hc1, by rw [Nat.add_assoc]; exact hc2, by rw [Nat.add_assoc]; exact hc3, A, c, by rw [Nat.add_assoc]; exact hc4, s1, s2, s3⟩
        · unfold sizeV; omega
      rcases Nat.eq_zero_or_pos len with h0 | h0
      · subst h0
        exact ⟨[], _, hcs, ⟨some a, cap, rfl, by simp, by simp, .inl rfl⟩, by unfold sizeL; omega⟩
      · obtain ⟨_, ⟨b, off, rfl, _⟩, _⟩ := hrow 0 h0
        have hrow' : ∀ i, i < len → ∃ x : Vals.V, CellsAt W W.heap.size x b (off + i * 5) ∧ sizeV x ≤ Rows.uptoBulk (D i) := by
          intro i hil
          obtain ⟨x, ⟨b', off', e, h1⟩, h2⟩ := hrow i hil
          simp only [Addr.mk.injEq, and_true] at e
          obtain ⟨rfl, rfl⟩ := e
          exact ⟨x, h1, h2⟩
        have : ∃ V : Nat → Vals.V, ∀ i, i < len → CellsAt W W.heap.size (V i) b (off + i * 5) ∧ sizeV (V i) ≤ Rows.uptoBulk (D i) :=
          ⟨fun i => if h : i < len then (hrow' i h).choose else .mk 0 0 0 ByteArray.empty [], fun i h => by simp only [h, dite_true]; exact (hrow' i h).choose_spec⟩
        obtain ⟨V, hV⟩ := this
        have hr := tabV_row (w := W) (B := W.heap.size) (b := b) (off := off) V len 0 (fun k _ h2 => (hV k (by omega)).1)
        rw [Nat.zero_mul, Nat.add_zero] at hr
        refine ⟨tabV V 0 len, _, hcs, ⟨some ⟨b, off, none⟩, cap, by rw [tabV_len], by rw [tabV_len]; omega, by rw [tabV_len]; omega, .inr ⟨b, off, rfl, hr⟩⟩, ?_⟩
        have hs := tabV_size V D len 0 (fun k _ h2 => (hV k (by omega)).2)
        rw [← List.range_eq_range'] at hs
        simp only [Rows.uptoBulk]
        omega

set_option maxRecDepth 100000 in
/-- A value that came in. -/
theorem value_came {H : Type} {enc : TypeId × Value → H} {W : World} {sp : Nat → Bool} {hd : Bool} {r : Reach} {b0 : Nat} {v : Value} {d : DataW H} {p : List MemPlace}
    (hv : Value.okWide Try.prog W r b0 24 v) (h : DataW.Trod enc Try.prog W 0 sp hd 24 v d p) (hk : Rows.uptoBulk d ≤ 1048576) :
    ∃ x : Vals.V, VAt W W.heap.size x v ∧ sizeV x ≤ Rows.uptoBulk d := by
  obtain ⟨f0, f1, f2, f3, f4, hS, hone, q0, q1, q2, q3, q4⟩ := val_fields
  obtain ⟨cs, rfl, hsz⟩ := okWide_struct hS hv
  obtain ⟨fuel, hf⟩ := h
  obtain ⟨ys, n, -, hx, hlen, hyl, hfield⟩ := DataW.trod_struct hS hf
  rw [val_cells] at hsz
  obtain ⟨c0, c1, c2, c3, c4, rfl⟩ : ∃ c0 c1 c2 c3 c4, cs = #[c0, c1, c2, c3, c4] := by
    obtain ⟨l⟩ := cs
    match l, hsz with
    | [c0, c1, c2, c3, c4], _ => exact ⟨c0, c1, c2, c3, c4, rfl⟩
  obtain ⟨y0, y1, y2, y3, y4, rfl⟩ : ∃ y0 y1 y2 y3 y4, ys = [y0, y1, y2, y3, y4] := by
    match ys, hyl with
    | [c0, c1, c2, c3, c4], _ => exact ⟨c0, c1, c2, c3, c4, rfl⟩
  obtain ⟨o0, k0⟩ := Deep.hone_of hone 0 f0 rfl
  obtain ⟨o1, k1⟩ := Deep.hone_of hone 1 f1 rfl
  obtain ⟨o2, k2⟩ := Deep.hone_of hone 2 f2 rfl
  obtain ⟨o3, k3⟩ := Deep.hone_of hone 3 f3 rfl
  obtain ⟨o4, k4⟩ := Deep.hone_of hone 4 f4 rfl
  have ht0 := hfield 0 f0 rfl
  have ht1 := hfield 1 f1 rfl
  have ht2 := hfield 2 f2 rfl
  have ht3 := hfield 3 f3 rfl
  have ht4 := hfield 4 f4 rfl
  rw [o0, k0, q0] at ht0
  rw [o1, k1, q1] at ht1
  rw [o2, k2, q2] at ht2
  rw [o3, k3, q3] at ht3
  rw [o4, k4, q4] at ht4
  simp only [Value.cells, List.drop, List.take, List.getElem?_cons_zero, List.getElem?_cons_succ] at ht0 ht1 ht2 ht3 ht4
  obtain ⟨k, e0, rfl, _⟩ := DataW.trod_int Try.underlying3 ht0
  obtain ⟨j, e1, rfl, _⟩ := DataW.trod_int Try.underlying3 ht1
  obtain ⟨t, e2, rfl, _⟩ := DataW.trod_int Try.underlying3 ht2
  obtain ⟨s, e3, rfl, _⟩ := DataW.trod_string Try.underlying9 ht3
  simp at e0 e1 e2 e3
  subst e0 e1 e2 e3
  simp only [Prod.mk.injEq] at hx
  obtain ⟨rfl, -⟩ := hx
  rw [show [((DataW.lit (Lit.int .i64 k) : DataW H), ([] : List MemPlace)), (.lit (.int .i64 j), []), (.lit (.int .i64 t), []), (.lit (.string s.data.toList), []), y4].map (·.1) = [.lit (.int .i64 k), .lit (.int .i64 j), .lit (.int .i64 t), .lit (.string s.data.toList), y4.1] from rfl, bulk_parts] at hk ⊢
  obtain ⟨l, g, hg, hsl, hs⟩ := values_came 1048576 n [c4] y4.1 y4.2 ht4 (by omega) (Nat.le_refl _)
  simp only [List.cons.injEq, and_true] at hg
  subst hg
  exact ⟨.mk k j t s l, ⟨_, rfl, hsl⟩, by unfold sizeV; omega⟩
end Go.Proofs.Ytkidjhdfpdecoaa.Vl
