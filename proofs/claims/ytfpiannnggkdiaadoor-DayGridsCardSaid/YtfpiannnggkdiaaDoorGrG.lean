/- DayGrids: weeks in memory, each one in a block of its own, and a list of them of one's own. -/
import Derived.Test.YtfpiannnggkdiaaDoorGrF
import Derived.OwnWalk
import Derived.Deep.AppendLies
import Derived.WalkMore
namespace Go.Proofs.YtfpiannnggkdiaaDoor
open Go.RowKit Go.Maps Go.Shelf

/-- One week in a block. -/
structure WkAt (w : World) (r : List Int) (g : Nat) : Prop where
  lt : g < w.heap.size
  cell : ∀ i, i < 7 → w.cell? ⟨g, i, none⟩ = some (.int .i64 (r.getD i 0))
def WkV (g : Nat) : Value := .slice (some ⟨g, 0, none⟩) 7 7
theorem WkAt.keep {w w' : World} {r : List Int} {g : Nat} (h : WkAt w r g) (hk : w'.heap[g]? = w.heap[g]?) (hs : w.heap.size ≤ w'.heap.size) : WkAt w' r g :=
  ⟨Nat.lt_of_lt_of_le h.lt hs, fun i hi => (World.cell?_of_block (w := w) (a := ⟨g, i, none⟩) hk).trans (h.cell i hi)⟩
/-- Weeks, each one in a block of its own, and a list of them of one's own. -/
structure Wks (W : World) (L : List (List Int)) (v : Value) (wx : World) : Prop where
  bel : Below W.heap.size W wx
  rep : ∃ gs : List Nat, wx.ownsRow W.heap.size 22 1 v L.length (gs.map WkV) ∧ gs.length = L.length ∧ ∀ j (h : j < gs.length) (h' : j < L.length), WkAt wx L[j] gs[j] ∧ W.heap.size ≤ gs[j] ∧ v.ownBlock ≠ some gs[j]
theorem Wks.nil {W wx : World} (hb : Below W.heap.size W wx) : Wks W [] (.slice none 0 0) wx :=
  ⟨hb, [], World.ownsRow_nil _ _ _ _, rfl, fun j h => absurd h (by simp)⟩
theorem own_keptG {w w' : World} {base n size : Nat} {e : TypeId} {v : Value} {xs : List Value} (h : w.ownsRow base e size v n xs) (hk : ∀ g, v.ownBlock = some g → w'.heap[g]? = w.heap[g]?) : w'.ownsRow base e size v n xs := by
  refine ⟨h.1, ?_⟩
  rcases h.2 with h0 | ⟨g, cap, cur, e1, hg, hc, r⟩
  · exact .inl h0
  · exact .inr ⟨g, cap, cur, e1, hg, (hk g (by rw [e1]; rfl)).trans hc, r⟩
theorem Wks.later {W w w' : World} {L : List (List Int)} {v : Value} (h : Wks W L v w) (hb : Below w.heap.size w w') : Wks W L v w' := by
  obtain ⟨gs, h1, h2, h3⟩ := h.rep
  exact ⟨h.bel.trans (hb.mono h.bel.size), gs, own_keptG h1 (fun g hg => hb.block g (h1.lt g hg).2), h2, fun j hj hj' => ⟨(h3 j hj hj').1.keep (hb.block _ (h3 j hj hj').1.lt) hb.size, (h3 j hj hj').2⟩⟩
/-- One week more. -/
theorem Wks.push {W w w4 : World} {L : List (List Int)} {v : Value} (h : Wks W L v w) {o : Obj} {r : List Int} {b gg cap : Nat} (hw : WkAt w r b) (hbW : W.heap.size ≤ b) (hbv : v.ownBlock ≠ some b)
    {gs : List Nat} (h1 : w.ownsRow W.heap.size 22 1 v L.length (gs.map WkV)) (h2 : gs.length = L.length) (h3 : ∀ j (h : j < gs.length) (h' : j < L.length), WkAt w L[j] gs[j] ∧ W.heap.size ≤ gs[j] ∧ v.ownBlock ≠ some gs[j])
    (ho4 : w4.ownsRow W.heap.size 22 1 (.slice (some ⟨gg, 0, none⟩) (L.length + 1) cap) (L.length + 1) (gs.map WkV ++ [WkV b]))
    (hg : (w.alloc o).grownBy w4 v.ownBlock) (hat : v.ownBlock = some gg ∨ gg = w.heap.size + 1) : Wks W (L ++ [r]) (.slice (some ⟨gg, 0, none⟩) (L.length + 1) cap) w4 := by
  have hbel := h.bel
  have hle := hbel.size
  have hsz4 := hg.size
  simp only [World.size_alloc] at hsz4
  have hk4 : ∀ k, k < w.heap.size → v.ownBlock ≠ some k → w4.heap[k]? = w.heap[k]? := fun k hk hne => by
    rw [hg.block k (by simp; omega) (fun e => hne e.symm)]
    exact Below.heap_alloc _ _ _ hk
  have hnew : ∀ k, k < w.heap.size → v.ownBlock ≠ some k → some gg ≠ some k := fun k hk hne e => by
    simp only [Option.some.injEq] at e
    subst e
    rcases hat with e | e
    · exact hne e
    · omega
  refine ⟨(hbel.alloc hle o).grown hg (by simp; omega) (fun k hk => (h1.lt k hk).1), gs ++ [b], ?_, by simp [h2], fun j hj hj' => ?_⟩
  · rw [List.length_append, List.map_append]
    exact ho4
  · simp only [List.length_append, List.length_singleton] at hj hj'
    by_cases hjl : j < gs.length
    · obtain ⟨g1, g2, g3⟩ := h3 j hjl (by omega)
      rw [List.getElem_append_left hjl, List.getElem_append_left (by omega)]
      exact ⟨g1.keep (hk4 _ g1.lt g3) (by omega), g2, hnew _ g1.lt g3⟩
    · have hj1 : j = gs.length := by omega
      rw [List.getElem_append_right (by omega), List.getElem_append_right (by omega)]
      simp only [List.getElem_singleton]
      exact ⟨hw.keep (hk4 _ hw.lt hbv) (by omega), hbW, hnew _ hw.lt hbv⟩
/-- A block whose first cells are filled. -/
structure WkFill (W : World) (r : List Int) (j : Nat) (wx : World) : Prop where
  bel : Below W.heap.size W wx
  size : wx.heap.size = W.heap.size + 1
  cell : ∀ i, i < 7 → wx.cell? ⟨W.heap.size, i, none⟩ = some (.int .i64 (if i < j then r.getD i 0 else 0))
  frz : ∀ i, wx.frozen? ⟨W.heap.size, i, none⟩ = false
theorem WkFill.start {W : World} {r : List Int} {T : TypeId} : WkFill W r 0 (W.alloc (.cells #[.int .i64 0, .int .i64 0, .int .i64 0, .int .i64 0, .int .i64 0, .int .i64 0, .int .i64 0] T)) := by
  refine ⟨(Below.refl _ _).alloc (Nat.le_refl _) _, by simp, fun i hi => ?_, fun i => ?_⟩
  · rw [World.cell?_alloc_at _ _ _ _ rfl]
    rcases (by omega : i = 0 ∨ i = 1 ∨ i = 2 ∨ i = 3 ∨ i = 4 ∨ i = 5 ∨ i = 6) with rfl | rfl | rfl | rfl | rfl | rfl | rfl <;> rfl
  · exact frozen_of_row _ _ i _ _ (heap_alloc_new W _)
theorem WkFill.put {W wx : World} {r : List Int} {j : Nat} (h : WkFill W r j wx) (hj : j < 7) {x : Int} (hx : x = r.getD j 0) : WkFill W r (j + 1) (wx.setCell ⟨W.heap.size, j, none⟩ (.int .i64 x)) := by
  refine ⟨h.bel.setCell (Nat.le_refl _) _, by simp [h.size], fun i hi => ?_, fun i => by rw [World.frozen?_setCell]; exact h.frz i⟩
  by_cases e : i = j
  · subst e
    rw [World.cell?_setCell_same _ _ _ (h.cell i hi), if_pos (by omega), hx]
  · rw [World.cell?_setCell_other _ _ _ _ (fun he => e (by injection he with _ h2 _; exact h2.symm)), h.cell i hi]
    by_cases hi2 : i < j
    · rw [if_pos hi2, if_pos (by omega)]
    · rw [if_neg hi2, if_neg (by omega)]
theorem WkFill.full {W wx : World} {r : List Int} (h : WkFill W r 7 wx) : WkAt wx r W.heap.size :=
  ⟨by rw [h.size]; omega, fun i hi => by rw [h.cell i hi, if_pos hi]⟩
end Go.Proofs.YtfpiannnggkdiaaDoor
