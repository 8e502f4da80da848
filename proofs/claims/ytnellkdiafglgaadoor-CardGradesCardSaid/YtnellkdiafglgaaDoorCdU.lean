/- Cards: reviews that came in. -/
import Derived.Test.YtnellkdiafglgaaDoorCdP
import Derived.Test.YtnellkdiafglgaaDoorCdO
namespace Go.Proofs.YtnellkdiafglgaaDoor
open Go.ChangeShapes Go.WideShapes Go.ChangeAt Go.RowKit Go.Joins

/-- A slice of structs of one-cell fields that came in, opened to its cells. -/
theorem open_rows {H : Type} {enc : TypeId × Value → H} {P : Program} {w : World} {base : Nat} {spare : Nat → Bool} {held : Bool} {t e : TypeId} {fs : Array Field} {fuel : Nat} {cs : List Value} {x : DataW H × List MemPlace} (ht : P.underlying t = some (.slice e)) (he : P.underlying e = some (.struct fs))
    (hone : Deep.oneCellFields P fs = true) (hC : P.cellsOf e = fs.size) (h : DataW.trod enc P w base spare held fuel t cs = some x) :
    (cs = [.slice none 0 0] ∧ x = (.nil, [])) ∨
    ∃ (a : Addr) (len cap m : Nat) (D : Nat → DataW H) (Pl : Nat → List MemPlace), cs = [.slice (some a) len cap] ∧ len ≤ cap ∧ m = (if spare a.block then cap else len) ∧
      x = (.slice ((List.range len).map D) ((List.range (m - len)).map fun j => D (len + j)), MemPlace.row a (m * fs.size) ++ (List.range m).flatMap Pl) ∧
      ∀ i, i < m → ∃ (ys : List (DataW H × List MemPlace)) (n : Nat), D i = .agg (ys.map (·.1)) ∧ ys.length = fs.size ∧
        ∀ (j : Nat) (f : Field), fs[j]? = some f → ∃ (v : Value) (y : DataW H × List MemPlace), w.cell? (a.add (i * fs.size + j)) = some v ∧ ys[j]? = some y ∧ DataW.trod enc P w base spare held n f.type [v] = some y := by
  rcases Deep.open_slice ht h with h0 | ⟨a, len, cap, m, n, D, Pl, hcs, hb, hl, hm, hmm, hx, hi⟩
  · exact .inl h0
  · refine .inr ⟨a, len, cap, m, D, Pl, hcs, hl, hmm, by rw [hC] at hx; exact hx, fun i him => ?_⟩
    obtain ⟨cs', hc, ht'⟩ := hi i him
    rw [hC] at hc
    obtain ⟨ys, n', hn', hy, hlen, hyl, hf⟩ := DataW.trod_struct he ht'
    obtain ⟨_, hcl, hat⟩ := World.cells?_some hc
    simp only [Prod.mk.injEq] at hy
    refine ⟨ys, n', hy.1, hyl, fun j f hj => ?_⟩
    obtain ⟨ho, hk⟩ := Deep.hone_of hone j f hj
    have hjl : j < fs.size := (Array.getElem?_eq_some_iff.1 hj).1
    have hcell := hat j hjl
    have hv : cs'[j]? = some (cs'[j]'(by omega)) := List.getElem?_eq_getElem (by omega)
    have h1 := hf j f hj
    rw [ho, hk] at h1
    have hone' : (cs'.drop j).take 1 = [cs'[j]'(by omega)] := by
      rw [List.drop_eq_getElem_cons (by omega)]
      rfl
    rw [hone'] at h1
    have hys : ys[j]? = some (ys[j]'(by omega)) := List.getElem?_eq_getElem (by omega)
    refine ⟨_, _, ?_, hys, h1.trans hys⟩
    rw [← Deep.add_add, hcell, hv]

def numAt (v : Option Value) : Int := match v with | some (.int _ n) => n | _ => 0
theorem reviews_cells : Tryd.prog.cellsOf 53 = 4 := by kernel_rfl
theorem reviews_fields : ∃ f0 f1 f2 f3 : Field, Tryd.prog.underlying 53 = some (.struct #[f0, f1, f2, f3]) ∧ Deep.oneCellFields Tryd.prog #[f0, f1, f2, f3] = true ∧ f0.type = 3 ∧ f1.type = 3 ∧ f2.type = 3 ∧ f3.type = 3 :=
  ⟨_, _, _, _, Tryd.underlying53, by kernel_rfl, rfl, rfl, rfl, rfl⟩
set_option maxRecDepth 100000 in
/-- A slice of such structs that came in. -/
theorem reviews_came {H : Type} {enc : TypeId × Value → H} {W : World} {sp : Nat → Bool} {hd : Bool} {a0 : Option Addr} {len cap : Nat} {d : DataW H} {p : List MemPlace}
    (h : DataW.Trod enc Tryd.prog W 0 sp hd 39 (.slice a0 len cap) d p) (hp : ∀ x ∈ p, x.block < W.heap.size) : ∃ l : List RvV, l.length = len ∧ RvVsAt W W.heap.size a0 l := by
  obtain ⟨fuel, hf⟩ := h
  obtain ⟨f0, f1, f2, f3, hS, hone, q0, q1, q2, q3⟩ := reviews_fields
  rcases open_rows Tryd.underlying39 hS hone reviews_cells hf with ⟨hcs, _⟩ | ⟨a, l', c', m, D, Pl, hcs, hl, hm, hx, hi⟩
  · simp [Value.cells] at hcs
    obtain ⟨rfl, rfl, rfl⟩ := hcs
    exact ⟨[], rfl, fun k x hk => by simp at hk⟩
  · simp [Value.cells] at hcs
    obtain ⟨rfl, rfl, rfl⟩ := hcs
    simp only [Prod.mk.injEq] at hx
    obtain ⟨rfl, rfl⟩ := hx
    have hlm : len ≤ m := by rw [hm]; split <;> omega
    have hrow : ∀ i, i < m → ∃ z0 z1 z2 z3 : Int, W.cell? (a.add (i * 4 + 0)) = some (.int .i64 z0) ∧ W.cell? (a.add (i * 4 + 1)) = some (.int .i64 z1) ∧ W.cell? (a.add (i * 4 + 2)) = some (.int .i64 z2) ∧ W.cell? (a.add (i * 4 + 3)) = some (.int .i64 z3) := by
      intro i him
      obtain ⟨ys, n, hD, hyl, hfield⟩ := hi i him
      obtain ⟨v0, y0, hc0, hy0, ht0⟩ := hfield 0 f0 rfl
      rw [q0] at ht0
      obtain ⟨z0, e0, -, _⟩ := DataW.trod_int Tryd.underlying3 ht0
      obtain ⟨v1, y1, hc1, hy1, ht1⟩ := hfield 1 f1 rfl
      rw [q1] at ht1
      obtain ⟨z1, e1, -, _⟩ := DataW.trod_int Tryd.underlying3 ht1
      obtain ⟨v2, y2, hc2, hy2, ht2⟩ := hfield 2 f2 rfl
      rw [q2] at ht2
      obtain ⟨z2, e2, -, _⟩ := DataW.trod_int Tryd.underlying3 ht2
      obtain ⟨v3, y3, hc3, hy3, ht3⟩ := hfield 3 f3 rfl
      rw [q3] at ht3
      obtain ⟨z3, e3, -, _⟩ := DataW.trod_int Tryd.underlying3 ht3
      simp at e0 e1 e2 e3
      subst e0 e1 e2 e3
      exact ⟨z0, z1, z2, z3, hc0, hc1, hc2, hc3⟩
    refine ⟨(List.range len).map fun i => (RvV.mk (numAt (W.cell? (a.add (i * 4 + 0)))) (numAt (W.cell? (a.add (i * 4 + 1)))) (numAt (W.cell? (a.add (i * 4 + 2)))) (numAt (W.cell? (a.add (i * 4 + 3))))), by simp, ?_⟩
    intro k x hk
    rw [List.getElem?_map] at hk
    obtain ⟨i, hki, he⟩ := Option.map_eq_some_iff.1 hk
    obtain ⟨hlt0, hke⟩ := List.getElem?_eq_some_iff.1 hki
    have hlt : k < len := by simpa using hlt0
    simp at hke
    subst hke
    obtain ⟨z0, z1, z2, z3, c0, c1, c2, c3⟩ := hrow k (by omega)
    rw [c0, c1, c2, c3] at he
    subst he
    obtain ⟨b, off, spot⟩ := a
    have hspot : spot = none := by
      obtain ⟨_, _, _, _, w0, -⟩ := hrow 0 (by omega)
      simpa [Addr.add] using World.cell?_spot w0
    subst hspot
    rw [add_plain] at c0 c1 c2 c3
    exact ⟨b, off, rfl, World.block_lt_of_cell? W _ c0, c0, (by rw [Nat.add_assoc]; exact c1), (by rw [Nat.add_assoc]; exact c2), (by rw [Nat.add_assoc]; exact c3)⟩
end Go.Proofs.YtnellkdiafglgaaDoor
