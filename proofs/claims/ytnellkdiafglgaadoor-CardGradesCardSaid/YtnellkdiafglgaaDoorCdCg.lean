/- Cards: lists of states that came in. -/
import Derived.Test.YtnellkdiafglgaaDoorCdCb
import Derived.Test.YtnellkdiafglgaaDoorCdU
namespace Go.Proofs.YtnellkdiafglgaaDoor
open Go.ChangeShapes Go.WideShapes Go.ChangeAt Go.RowKit Go.Joins

theorem states_cells : Tryd.prog.cellsOf 23 = 9 := by kernel_rfl
theorem states_fields : ∃ f0 f1 f2 f3 f4 f5 f6 f7 f8 : Field, Tryd.prog.underlying 23 = some (.struct #[f0, f1, f2, f3, f4, f5, f6, f7, f8]) ∧ Deep.oneCellFields Tryd.prog #[f0, f1, f2, f3, f4, f5, f6, f7, f8] = true ∧ f0.type = 3 ∧ f1.type = 3 ∧ f2.type = 3 ∧ f3.type = 3 ∧ f4.type = 3 ∧ f5.type = 3 ∧ f6.type = 3 ∧ f7.type = 3 ∧ f8.type = 3 :=
  ⟨_, _, _, _, _, _, _, _, _, Tryd.underlying23, by kernel_rfl, rfl, rfl, rfl, rfl, rfl, rfl, rfl, rfl, rfl⟩
set_option maxRecDepth 100000 in
/-- A slice of such structs that came in. -/
theorem states_came {H : Type} {enc : TypeId × Value → H} {W : World} {sp : Nat → Bool} {hd : Bool} {a0 : Option Addr} {len cap : Nat} {d : DataW H} {p : List MemPlace}
    (h : DataW.Trod enc Tryd.prog W 0 sp hd 43 (.slice a0 len cap) d p) (hp : ∀ x ∈ p, x.block < W.heap.size) : ∃ l : List StV, l.length = len ∧ StVsAt W W.heap.size a0 l := by
  obtain ⟨fuel, hf⟩ := h
  obtain ⟨f0, f1, f2, f3, f4, f5, f6, f7, f8, hS, hone, q0, q1, q2, q3, q4, q5, q6, q7, q8⟩ := states_fields
  rcases open_rows Tryd.underlying43 hS hone states_cells hf with ⟨hcs, _⟩ | ⟨a, l', c', m, D, Pl, hcs, hl, hm, hx, hi⟩
  · simp [Value.cells] at hcs
    obtain ⟨rfl, rfl, rfl⟩ := hcs
    exact ⟨[], rfl, fun k x hk => by simp at hk⟩
  · simp [Value.cells] at hcs
    obtain ⟨rfl, rfl, rfl⟩ := hcs
    simp only [Prod.mk.injEq] at hx
    obtain ⟨rfl, rfl⟩ := hx
    have hlm : len ≤ m := by rw [hm]; split <;> omega
    have hrow : ∀ i, i < m → ∃ z0 z1 z2 z3 z4 z5 z6 z7 z8 : Int, W.cell? (a.add (i * 9 + 0)) = some (.int .i64 z0) ∧ W.cell? (a.add (i * 9 + 1)) = some (.int .i64 z1) ∧ W.cell? (a.add (i * 9 + 2)) = some (.int .i64 z2) ∧ W.cell? (a.add (i * 9 + 3)) = some (.int .i64 z3) ∧ W.cell? (a.add (i * 9 + 4)) = some (.int .i64 z4) ∧ W.cell? (a.add (i * 9 + 5)) = some (.int .i64 z5) ∧ W.cell? (a.add (i * 9 + 6)) = some (.int .i64 z6) ∧ W.cell? (a.add (i * 9 + 7)) = some (.int .i64 z7) ∧ W.cell? (a.add (i * 9 + 8)) = some (.int .i64 z8) := by
      intro i him
      obtain ⟨ys, n, hD, hyl, hfield⟩ := hi i him
      obtain ⟨v0, y0, hc0, hy0, ht0⟩ := hfield 0 f0 rfl
      rw [q0] at ht0
      obtain ⟨z0, e0, -, _⟩ := DataW.trod_int Tryd.underlying3 ht0
      obtain ⟨v1, y1, hc1, hy1, ht1⟩ := hfield 1 f1 rfl
      rw [q1] at ht1
      obtain ⟨z1, e1, -, _⟩ := DataW.trod_int Tryd.underlying3 ht1
      obtain ⟨v2, y2, hc2, hy2, ht2⟩ := hfield 2 f2 rfl
      rw [q2] at ht2
      obtain ⟨z2, e2, -, _⟩ := DataW.trod_int Tryd.underlying3 ht2
      obtain ⟨v3, y3, hc3, hy3, ht3⟩ := hfield 3 f3 rfl
      rw [q3] at ht3
      obtain ⟨z3, e3, -, _⟩ := DataW.trod_int Tryd.underlying3 ht3
      obtain ⟨v4, y4, hc4, hy4, ht4⟩ := hfield 4 f4 rfl
      rw [q4] at ht4
      obtain ⟨z4, e4, -, _⟩ := DataW.trod_int Tryd.underlying3 ht4
      obtain ⟨v5, y5, hc5, hy5, ht5⟩ := hfield 5 f5 rfl
      rw [q5] at ht5
      obtain ⟨z5, e5, -, _⟩ := DataW.trod_int Tryd.underlying3 ht5
      obtain ⟨v6, y6, hc6, hy6, ht6⟩ := hfield 6 f6 rfl
      rw [q6] at ht6
      obtain ⟨z6, e6, -, _⟩ := DataW.trod_int Tryd.underlying3 ht6
      obtain ⟨v7, y7, hc7, hy7, ht7⟩ := hfield 7 f7 rfl
      rw [q7] at ht7
      obtain ⟨z7, e7, -, _⟩ := DataW.trod_int Tryd.underlying3 ht7
      obtain ⟨v8, y8, hc8, hy8, ht8⟩ := hfield 8 f8 rfl
      rw [q8] at ht8
      obtain ⟨z8, e8, -, _⟩ := DataW.trod_int Tryd.underlying3 ht8
      simp at e0 e1 e2 e3 e4 e5 e6 e7 e8
      subst e0 e1 e2 e3 e4 e5 e6 e7 e8
      exact ⟨z0, z1, z2, z3, z4, z5, z6, z7, z8, hc0, hc1, hc2, hc3, hc4, hc5, hc6, hc7, hc8⟩
    refine ⟨(List.range len).map fun i => (StV.mk (numAt (W.cell? (a.add (i * 9 + 0)))) (numAt (W.cell? (a.add (i * 9 + 1)))) (numAt (W.cell? (a.add (i * 9 + 2)))) (numAt (W.cell? (a.add (i * 9 + 3)))) (numAt (W.cell? (a.add (i * 9 + 4)))) (numAt (W.cell? (a.add (i * 9 + 5)))) (numAt (W.cell? (a.add (i * 9 + 6)))) (numAt (W.cell? (a.add (i * 9 + 7)))) (numAt (W.cell? (a.add (i * 9 + 8))))), by simp, ?_⟩
    intro k x hk
    rw [List.getElem?_map] at hk
    obtain ⟨i, hki, he⟩ := Option.map_eq_some_iff.1 hk
    obtain ⟨hlt0, hke⟩ := List.getElem?_eq_some_iff.1 hki
    have hlt : k < len := by simpa using hlt0
    simp at hke
    subst hke
    obtain ⟨z0, z1, z2, z3, z4, z5, z6, z7, z8, c0, c1, c2, c3, c4, c5, c6, c7, c8⟩ := hrow k (by omega)
    rw [c0, c1, c2, c3, c4, c5, c6, c7, c8] at he
    subst he
    obtain ⟨b, off, spot⟩ := a
    have hspot : spot = none := by
      obtain ⟨_, _, _, _, _, _, _, _, _, w0, -⟩ := hrow 0 (by omega)
      simpa [Addr.add] using World.cell?_spot w0
    subst hspot
    rw [add_plain] at c0 c1 c2 c3 c4 c5 c6 c7 c8
    exact ⟨b, off, rfl, World.block_lt_of_cell? W _ c0, c0, (by rw [Nat.add_assoc]; exact c1), (by rw [Nat.add_assoc]; exact c2), (by rw [Nat.add_assoc]; exact c3), (by rw [Nat.add_assoc]; exact c4), (by rw [Nat.add_assoc]; exact c5), (by rw [Nat.add_assoc]; exact c6), (by rw [Nat.add_assoc]; exact c7), (by rw [Nat.add_assoc]; exact c8)⟩
end Go.Proofs.YtnellkdiafglgaaDoor
