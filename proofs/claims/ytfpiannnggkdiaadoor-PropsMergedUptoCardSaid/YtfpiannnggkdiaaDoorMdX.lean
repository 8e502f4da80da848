/- The reference's mergeValue: the closure add. The items come to the same on both sides (pure). The reference's mergeValue: the walk. (Made by gen_mgm.py.) -/
import Derived.Test.YtfpiannnggkdiaaDoorMcX
namespace Go.Proofs.YtfpiannnggkdiaaDoor
open Go.RowKit Go.Shelf

def preO : List Value := [.int .i64 7, .int .i64 0, .int .i64 0, .string ⟨#[]⟩]
end Go.Proofs.YtfpiannnggkdiaaDoor
namespace Go.Proofs.YtfpiannnggkdiaaDoor
open Go.RowKit Go.Shelf

theorem hasT_iff {l : List V} {x : V} : hasT l x = true ↔ ∃ y ∈ l, sameT y x = true := by unfold hasT; rw [List.any_eq_true]
theorem hasT_same {l : List V} {x y : V} (h : sameT x y = true) : hasT l x = hasT l y := by
  rw [Bool.eq_iff_iff, hasT_iff, hasT_iff]
  exact ⟨fun ⟨z, hz, h1⟩ => ⟨z, hz, sameT_trans h1 h⟩, fun ⟨z, hz, h1⟩ => ⟨z, hz, sameT_trans h1 (by rw [sameT_comm]; exact h)⟩⟩
theorem hasT_more {l : List V} {x y : V} (h : hasT l x = true) : hasT (l ++ [y]) x = true := by
  rw [hasT_iff] at h ⊢
  obtain ⟨z, hz, h1⟩ := h
  exact ⟨z, List.mem_append.2 (.inl hz), h1⟩
theorem addL_keeps (p : V → Bool) : ∀ (l L : List V) (x : V), hasT L x = true → hasT (addL L p l) x = true
  | [], L, x, h => h
  | y :: l, L, x, h => by
    rw [addL]
    apply addL_keeps p l
    split
    · exact hasT_more h
    · exact h
theorem addL_has (p : V → Bool) : ∀ (l L : List V) (x : V), x ∈ l → p x = true → hasT (addL L p l) x = true
  | [], _, _, h, _ => by simp at h
  | y :: l, L, x, h, hp => by
    rw [addL]
    rcases List.mem_cons.1 h with rfl | h
    · apply addL_keeps p l
      rcases hh : hasT L x with _ | _
      · rw [hp]
        simp only [Bool.not_false, Bool.and_true, if_true]
        rw [hasT_iff]
        exact ⟨x, by simp, sameT_self x⟩
      · simp [hh]
    · exact addL_has p l _ x h hp
theorem addL_skip (p q : V → Bool) : ∀ (l L : List V), (∀ x ∈ l, p x = true → q x = true → hasT L x = true) → addL L p l = addL L (fun x => p x && !q x) l
  | [], _, _ => rfl
  | y :: l, L, h => by
    rw [addL, addL]
    have hy := h y (List.mem_cons_self ..)
    have e : (if (p y && !hasT L y) = true then L ++ [y] else L) = (if ((p y && !q y) && !hasT L y) = true then L ++ [y] else L) := by
      rcases hp : p y with _ | _
      · simp
      · rcases hq : q y with _ | _
        · simp
        · simp [hy hp hq]
    rw [← e]
    refine addL_skip p q l _ (fun x hx h1 h2 => ?_)
    have := h x (List.mem_cons_of_mem _ hx) h1 h2
    split
    · exact hasT_more this
    · exact this
/-- The items as the reference has them. -/
def itemsR (lo la lb : List V) : List V :=
  addL (addL (addL [] (fun x => hasT la x && hasT lb x) lo) (fun x => !hasT lo x) la) (fun x => !hasT lo x) lb
theorem itemsR_eq (lo la lb : List V) : itemsR lo la lb = itemsM lo la lb := by
  unfold itemsR itemsM
  refine addL_skip (fun x => !hasT lo x) (fun x => hasT la x) lb _ (fun x _ h1 h2 => ?_)
  rw [hasT_iff] at h2
  obtain ⟨y, hy, hyx⟩ := h2
  rw [← hasT_same hyx]
  refine addL_has _ la _ y hy ?_
  show (!hasT lo y) = true
  rw [hasT_same hyx]
  exact h1
/-- Whether the first j of three are lists. -/
def ls3 (ko ka kb : Int) : Nat → Bool
  | 0 => true
  | 1 => listB ko
  | 2 => listB ko && listB ka
  | _ => listB ko && listB ka && listB kb
theorem mv_of_st {w W0 W : World} {ib base B0 : Nat} {T : TypeId} {pre suf : List Value} {L : List V} {co ca cb : Array Value} (h : MvBox w w.heap.size co ca cb W0) (hS : ItemSt W0 ib base B0 T pre suf L W) (h1 : w.heap.size + 1 + 1 + 1 < ib) (h2 : ib < base) : MvBox w w.heap.size co ca cb W :=
  ⟨⟨hS.os.trans h.bel.os, hS.tape.trans h.bel.tape, hS.output.trans h.bel.output, by have := hS.size; omega, fun k hk => (hS.block k (by omega) (by omega)).trans (h.bel.block k hk)⟩, (hS.block _ (by omega) (by omega)).trans h.o, (hS.block _ (by omega) (by omega)).trans h.a, (hS.block _ (by omega) (by omega)).trans h.b, (hS.block _ (by omega) (by omega)).trans h.r⟩
theorem src_item {w0 w : World} {ib base B0 : Nat} {T : TypeId} {pre suf : List Value} {L l : List V} {A : Option Addr} {c j : Nat} (h : ItemSt w0 ib base B0 T pre suf L w) (hB : B0 ≤ ib) (hib : ib < base) (hl : SlF w0 (fun k => k < B0) l (.slice A l.length c)) (hj : j < l.length) :
    ∃ b off kx ix tx sx lx Ax cx, A = some ⟨b, off, none⟩ ∧ l[j] = .mk kx ix tx sx lx ∧ b < w.heap.size ∧ w.cell? ⟨b, off + j * 5, none⟩ = some (.int .i64 kx) ∧ w.cell? ⟨b, off + j * 5 + 1, none⟩ = some (.int .i64 ix) ∧ w.cell? ⟨b, off + j * 5 + 2, none⟩ = some (.int .i64 tx) ∧
      w.cell? ⟨b, off + j * 5 + 3, none⟩ = some (.string sx) ∧ w.cell? ⟨b, off + j * 5 + 4, none⟩ = some (.slice Ax lx.length cx) ∧ sx.size ≤ 1048576 ∧ SlF w (fun k => k < B0) lx (.slice Ax lx.length cx) := by
  have hsz := h.size
  have hslF := hl.keep (w' := w) (G := fun k => k < B0) (fun b hb => h.block b (by omega) (by omega)) (fun _ h => h)
  obtain ⟨b, off, kx, ix, tx, sx, lx, Ax, cx, rfl, hx, hlt, g0, g1, g2, g3, g4, gz, gl, gs⟩ := val_item (hslF.toAt (fun b hb => by omega)) hj
  refine ⟨b, off, kx, ix, tx, sx, lx, Ax, cx, rfl, hx, hlt, g0, g1, g2, g3, g4, gz, ?_⟩
  obtain ⟨A1, c1, e1, _, _, h8⟩ := hslF
  rcases h8 with h8 | ⟨b1, o1, e2, h8⟩
  · rw [h8] at hj; exact absurd hj (by simp)
  · simp only [Value.slice.injEq] at e1
    obtain ⟨rfl, _, _⟩ := e1
    simp only [Option.some.injEq, Addr.mk.injEq, and_true] at e2
    obtain ⟨rfl, rfl⟩ := e2
    have h9 := row_item l b off j h8 hj
    rw [hx] at h9
    unfold CellsF at h9
    obtain ⟨q0, _, _, _, _, _, A3, c3, q5, q6, q7, q8⟩ := h9
    have e5 : some (Value.slice Ax lx.length cx) = some (Value.slice A3 lx.length c3) := g4.symm.trans q5
    rw [Option.some.inj e5]
    exact ⟨A3, c3, rfl, q6, q7, q8⟩
end Go.Proofs.YtfpiannnggkdiaaDoor
namespace Go.Proofs.YtfpiannnggkdiaaDoor
open Go.RowKit Go.Shelf

end Go.Proofs.YtfpiannnggkdiaaDoor
