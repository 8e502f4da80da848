/- slices.Clone at properties. slices.IndexFunc at properties, by a name. clear of a row of properties. slices.DeleteFunc at properties, by a name. A row of properties as an array of items (for slices.SortFunc); lists of one's own as lists in memory. -/
import Derived.Test.YtfpiannnggkdiaaDoorWoX
import Derived.OwnWalk
import Derived.WalkMore
import Derived.Lib.SliceRun
import Derived.Shelf.SlSortCmp.WholeK
namespace Go.Proofs.YtfpiannnggkdiaaDoor
open Go.RowKit

/-- The cells of a row of properties, as they lie and as they are said. -/
theorem prow_news {w : World} {B : Nat} : ∀ (l : List PV) (b off : Nat), PRow w B l b off → ∃ news : List Value, news.length = l.length * 6 ∧ PRep w (fun k => k < B) l news ∧ (∀ j u, news[j]? = some u → w.cell? ⟨b, off + j, none⟩ = some u) ∧ ∀ u ∈ news, u.oneCell' = true
  | [], _, _, _ => ⟨[], rfl, rfl, fun j u h => by simp at h, fun _ h => by simp at h⟩
  | ⟨nm, .mk k i t s y⟩ :: l, b, off, h => by
    unfold PRow at h
    obtain ⟨⟨hb, hn, hnz, h⟩, hr⟩ := h
    obtain ⟨news, g1, gr, g2, g3⟩ := prow_news l b (off + 6) hr
    unfold CellsAt at h
    obtain ⟨h0, h1, h2, h3, h4, hz, A, c, h5, h6, h7, h8⟩ := h
    have hsl : SlAt w B y (.slice A y.length c) := ⟨A, c, rfl, h6, h7, h8⟩
    refine ⟨.string nm :: .int .i64 k :: .int .i64 i :: .int .i64 t :: .string s :: .slice A y.length c :: news, by simp [g1]; omega, ⟨A, c, news, rfl, hnz, hz, hsl.toF (fun _ h => h), gr⟩, fun j u hj => ?_, fun u hu => ?_⟩
    · match j, hj with
      | 0, hj => simp at hj; rw [← hj]; exact hn
      | 1, hj => simp at hj; rw [← hj]; exact h1
      | 2, hj => simp at hj; rw [← hj]; exact h2
      | 3, hj => simp at hj; rw [← hj]; exact h3
      | 4, hj => simp at hj; rw [← hj]; exact h4
      | 5, hj => simp at hj; rw [← hj]; exact h5
      | j + 6, hj =>
        have := g2 j u (by simpa using hj)
        rw [show off + (j + 6) = off + 6 + j by omega]
        exact this
    · simp only [List.mem_cons] at hu
      rcases hu with rfl | rfl | rfl | rfl | rfl | rfl | hu
      · rfl
      · rfl
      · rfl
      · rfl
      · rfl
      · rfl
      · exact g3 u hu
theorem own_base {w : World} {base base' n size : Nat} {e : TypeId} {v : Value} {xs : List Value} (h : w.ownsRow base e size v n xs) (hb : ∀ g, v.ownBlock = some g → base' ≤ g) : w.ownsRow base' e size v n xs := own_rebase h hb

end Go.Proofs.YtfpiannnggkdiaaDoor
namespace Go.Proofs.YtfpiannnggkdiaaDoor
open Go.RowKit Go.Shelf

theorem PRep.item {w : World} {F : Nat → Prop} : ∀ {L : List PV} {xs : List Value} {j : Nat}, PRep w F L xs → (hj : j < L.length) →
    ∃ nm k i t s l A c, L[j] = ⟨nm, .mk k i t s l⟩ ∧ xs[j * 6]? = some (.string nm) ∧ xs[j * 6 + 1]? = some (.int .i64 k) ∧ xs[j * 6 + 2]? = some (.int .i64 i) ∧ xs[j * 6 + 3]? = some (.int .i64 t) ∧ xs[j * 6 + 4]? = some (.string s) ∧ xs[j * 6 + 5]? = some (.slice A l.length c) ∧ nm.size ≤ 1048576 ∧ s.size ≤ 1048576 ∧ SlF w F l (.slice A l.length c)
  | [], _, _, _, hj => absurd hj (by simp)
  | ⟨nm, .mk k i t s l⟩ :: r, xs, 0, h, _ => by
    obtain ⟨A, c, ys, rfl, h2, h3, h4, h5⟩ := h
    exact ⟨nm, k, i, t, s, l, A, c, rfl, rfl, rfl, rfl, rfl, rfl, rfl, h2, h3, h4⟩
  | ⟨nm, .mk k i t s l⟩ :: r, xs, j + 1, h, hj => by
    obtain ⟨A, c, ys, rfl, h2, h3, h4, h5⟩ := h
    have h6 := PRep.item h5 (j := j) (by simpa using hj)
    rw [show (j + 1) * 6 = j * 6 + 6 by omega]
    simpa [Nat.add_right_comm] using h6
/-- Where the first property of a name is, or -1. -/
def PIdx (l : List PV) (q : ByteArray) (r : Int) : Prop :=
  (r = -1 ∧ ∀ k (hk : k < l.length), (l[k].nm.toList == q.toList) = false) ∨ ∃ j : Nat, r = j ∧ ∃ hj : j < l.length, (l[j].nm.toList == q.toList) = true ∧ ∀ k (hk : k < l.length), k < j → (l[k].nm.toList == q.toList) = false
/-- A function value that compares a property's name with q, in whatever later world. -/
structure AsksP (K : Nat) (cap : Array Value) (q : ByteArray) (w : World) : Prop where
  enter : ∀ (xs : Array Value) (W : World), (callFunc K xs).run Tryd.prog W = .ok (.enter K xs) W
  call : ∀ (W : World) (nm : ByteArray) (k i t : Int) (s : ByteArray) (g : Value), Below w.heap.size w W →
    Calls Tryd.prog K (#[.agg #[.string nm, .int .i64 k, .int .i64 i, .int .i64 t, .string s, g]] ++ cap) W (Quiet W (.bool (nm.toList == q.toList)))
end Go.Proofs.YtfpiannnggkdiaaDoor
namespace Go.Proofs.YtfpiannnggkdiaaDoor
open Go.RowKit Go.Shelf Go.Lib

theorem run_clear_row {P : Program} (w : World) (t e ty : TypeId) (z : Value) (ht : P.underlying t = some (.slice e)) (hv : ∀ w, (zeroValue e).run P w = .ok z w) (b o n c : Nat) (hn : 0 < n)
    (h1 : ∀ u ∈ (Builtin.zeroCells z.cells n).toList, u.oneCell' = true)
    (hc : ∀ j, j < (Builtin.zeroCells z.cells n).toList.length → (w.cell? ⟨b, o + j, none⟩).isSome = true) (hf : ∀ j, j < (Builtin.zeroCells z.cells n).toList.length → w.frozen? ⟨b, o + j, none⟩ = false) :
    (Builtin.clear_ #[t] ty #[.slice (some ⟨b, o, none⟩) n c]).run P w = .ok (.tuple #[]) (w.setCells b o (Builtin.zeroCells z.cells n).toList) := by
  have hst := run_storeCells_cells (P := P) b o (Builtin.zeroCells z.cells n).toList 0 w (by simpa using hc) (by simpa using hf) h1
  simp only [Nat.add_zero] at hst
  obtain ⟨m, rfl⟩ : ∃ m, n = m + 1 := ⟨n - 1, by omega⟩
  simp [Builtin.clear_, run_underlying ht, hv, hst]

/-! ### What slices.DeleteFunc does to a row of properties -/
theorem PRep.set {w : World} {F : Nat → Prop} {nm : ByteArray} {k ii t : Int} {s : ByteArray} {l : List V} {A : Option Addr} {c : Nat} (h1 : nm.size ≤ 1048576) (h2 : s.size ≤ 1048576) (h3 : SlF w F l (.slice A l.length c)) :
    ∀ {L : List PV} {xs : List Value} {i : Nat}, PRep w F L xs → i < L.length → PRep w F (L.set i ⟨nm, .mk k ii t s l⟩) (xs.take (i * 6) ++ [.string nm, .int .i64 k, .int .i64 ii, .int .i64 t, .string s, .slice A l.length c] ++ xs.drop (i * 6 + 6))
  | [], _, _, _, hi => absurd hi (by simp)
  | ⟨nm', .mk k' i' t' s' l'⟩ :: r, xs, 0, h, _ => by
    obtain ⟨A', c', ys, rfl, g2, g3, g4, g5⟩ := h
    exact ⟨A, c, ys, rfl, h1, h2, h3, g5⟩
  | ⟨nm', .mk k' i' t' s' l'⟩ :: r, xs, i + 1, h, hi => by
    obtain ⟨A', c', ys, rfl, g2, g3, g4, g5⟩ := h
    have ih := PRep.set h1 h2 h3 (k := k) (ii := ii) (t := t) g5 (i := i) (by simpa using hi)
    rw [show (i + 1) * 6 = i * 6 + 6 by omega]
    exact ⟨A', c', _, rfl, g2, g3, g4, ih⟩
theorem PRep.takeN {w : World} {F : Nat → Prop} : ∀ {L : List PV} {xs : List Value} (i : Nat), PRep w F L xs → PRep w F (L.take i) (xs.take (i * 6))
  | [], xs, i, h => by
    have h : xs = [] := h
    subst h
    simp; rfl
  | _ :: _, xs, 0, _ => by simp; rfl
  | ⟨nm', .mk k' i' t' s' l'⟩ :: r, xs, i + 1, h => by
    obtain ⟨A', c', ys, rfl, g2, g3, g4, g5⟩ := h
    rw [show (i + 1) * 6 = i * 6 + 6 by omega]
    exact ⟨A', c', _, rfl, g2, g3, g4, PRep.takeN i g5⟩
/-- The row while it is shifted: what is kept of the first j, then all from there on as it lay. -/
def shiftL (l : List PV) (q : ByteArray) (j : Nat) : List PV := woL (l.take j) q ++ l.drop (woL (l.take j) q).length
theorem wo_le (l : List PV) (q : ByteArray) (j : Nat) : (woL (l.take j) q).length ≤ j := Nat.le_trans (woL_len _ _) (by rw [List.length_take]; omega)
theorem shift_len (l : List PV) (q : ByteArray) {j : Nat} (hj : j ≤ l.length) : (shiftL l q j).length = l.length := by
  have := wo_le l q j
  unfold shiftL
  rw [List.length_append, List.length_drop]
  omega
theorem shift_at (l : List PV) (q : ByteArray) {j : Nat} (hj : j < l.length) (hj2 : j < (shiftL l q j).length) : (shiftL l q j)[j] = l[j] := by
  have := wo_le l q j
  unfold shiftL at hj2 ⊢
  rw [List.getElem_append_right (by omega), List.getElem_drop]
  congr 1
  omega
theorem shift_keep (l : List PV) (q : ByteArray) {j : Nat} (hj : j < l.length) (h : (l[j].nm.toList == q.toList) = false) : shiftL l q (j + 1) = (shiftL l q j).set (woL (l.take j) q).length l[j] := by
  have := wo_le l q j
  unfold shiftL
  rw [woL_yes hj h, List.set_append_right _ _ (Nat.le_refl _), Nat.sub_self, List.length_append, List.append_assoc]
  congr 1
  rw [List.drop_eq_getElem_cons (i := (woL (l.take j) q).length) (by omega)]
  rfl
theorem shift_drop (l : List PV) (q : ByteArray) {j : Nat} (hj : j < l.length) (h : (l[j].nm.toList == q.toList) = true) : shiftL l q (j + 1) = shiftL l q j := by
  unfold shiftL
  rw [woL_no hj h]
theorem shift_end (l : List PV) (q : ByteArray) : (shiftL l q l.length).take (woL l q).length = woL l q := by
  unfold shiftL
  rw [List.take_length, List.take_left']
  rfl
theorem woL_before {l : List PV} {q : ByteArray} : ∀ {j : Nat}, (∀ k (hk : k < l.length), k < j → (l[k].nm.toList == q.toList) = false) → j ≤ l.length → woL (l.take j) q = l.take j
  | 0, _, _ => by simp [woL]
  | j + 1, h, hj => by
    rw [woL_yes (by omega) (h j (by omega) (by omega)), woL_before (fun k hk hkj => h k hk (by omega)) (by omega), List.take_succ_eq_append_getElem (by omega)]
theorem shift_start {l : List PV} {q : ByteArray} {j : Nat} (h : ∀ k (hk : k < l.length), k < j → (l[k].nm.toList == q.toList) = false) (hj : j < l.length) (hq : (l[j].nm.toList == q.toList) = true) : shiftL l q (j + 1) = l ∧ (woL (l.take (j + 1)) q).length = j := by
  have e := woL_before h (by omega)
  have e2 : (woL (l.take (j + 1)) q) = l.take j := by rw [woL_no hj hq, e]
  refine ⟨?_, by rw [e2, List.length_take]; omega⟩
  unfold shiftL
  rw [e2, List.length_take, Nat.min_eq_left (by omega), List.take_append_drop]
theorem wo_lt {l : List PV} {q : ByteArray} {j m : Nat} (hj : j < l.length) (hq : (l[j].nm.toList == q.toList) = true) (hm : j < m) (hml : m ≤ l.length) : (woL (l.take m) q).length < m := by
  induction m with
  | zero => omega
  | succ m ih =>
    rcases hc : (l[m].nm.toList == q.toList) with _ | _
    · rw [woL_yes (by omega) hc, List.length_append]
      by_cases e : m = j
      · subst e; rw [hq] at hc; cases hc
      · have := ih (by omega) (by omega)
        simpa using this
    · rw [woL_no (by omega) hc]
      have := wo_le l q m
      omega
end Go.Proofs.YtfpiannnggkdiaaDoor
namespace Go.Proofs.YtfpiannnggkdiaaDoor
open Go.RowKit Go.Shelf

/-- The row while it is shifted. -/
structure DelAt (w : World) (b c base : Nat) (l : List PV) (F : Nat → Prop) (wx : World) : Prop where
  os : wx.os = w.os
  tape : wx.tape = w.tape
  output : wx.output = w.output
  size : w.heap.size ≤ wx.heap.size
  block : ∀ k, k < w.heap.size → k ≠ b → wx.heap[k]? = w.heap[k]?
  rep : ∃ xs, wx.ownsRow base 59 6 (.slice (some ⟨b, 0, none⟩) l.length c) l.length xs ∧ PRep wx F l xs
theorem DelAt.later {w wx wy : World} {b c base : Nat} {l : List PV} {F : Nat → Prop} (h : DelAt w b c base l F wx) (hF : ∀ k, F k → k < w.heap.size) (hb : Below wx.heap.size wx wy) : DelAt w b c base l F wy := by
  obtain ⟨xs, h1, h2⟩ := h.rep
  have hs := h.size
  exact ⟨hb.os.trans h.os, hb.tape.trans h.tape, hb.output.trans h.output, Nat.le_trans h.size hb.size, fun k hk hne => (hb.block k (by omega)).trans (h.block k hk hne), xs, own_base (own_thru h1 hb) (fun g hg => by have := (h1.lt g hg).1; exact this), h2.keep (fun k hk => hb.block k (by have := hF k hk; omega)) (fun _ h => h)⟩

theorem keep_boxV {w w3 : World} {o : Obj} (hb : Below (w.alloc o).heap.size (w.alloc o) w3) : Below w.heap.size w w3 ∧ w3.heap[w.heap.size]? = some o :=
  ⟨((Below.refl _ w).alloc (Nat.le_refl _) o).trans (hb.mono (by simp)), (hb.block _ (by simp)).trans (heap_alloc_new w o)⟩
theorem six_set (xs : List Value) (i : Nat) (a b c d e f : Value) (h : i + 6 ≤ xs.length) : (((((xs.set i a).set (i + 1) b).set (i + 2) c).set (i + 3) d).set (i + 4) e).set (i + 5) f = xs.take i ++ [a, b, c, d, e, f] ++ xs.drop (i + 6) := by
  apply List.ext_getElem?
  intro k
  simp only [List.getElem?_set, List.length_set]
  rcases Nat.lt_or_ge k i with hk | hk
  · rw [List.append_assoc, List.getElem?_append_left (by rw [List.length_take]; omega), List.getElem?_take]
    repeat rw [if_neg (by omega)]
    rw [if_pos hk]
  · rw [List.append_assoc, List.getElem?_append_right (by rw [List.length_take]; omega), List.length_take, Nat.min_eq_left (by omega)]
    obtain ⟨p, rfl⟩ : ∃ p, k = i + p := ⟨k - i, by omega⟩
    rw [Nat.add_sub_cancel_left]
    match p with
    | 0 => simp; omega
    | 1 => simp; omega
    | 2 => simp; omega
    | 3 => simp; omega
    | 4 => simp; omega
    | 5 => simp; omega
    | p + 6 =>
      repeat rw [if_neg (by omega)]
      rw [List.getElem?_append_right (by simp)]
      simp
      congr 1
      omega
set_option maxHeartbeats 4000000 in
theorem DelAt.store {w wx : World} {b c base : Nat} {l : List PV} {F : Nat → Prop} (h : DelAt w b c base l F wx) (hF : ∀ k, F k → k < w.heap.size ∧ k ≠ b) {i : Nat} (hi : i < l.length) {nm sx : ByteArray} {kx ix tx : Int} {lx : List V} {A : Option Addr} {cx : Nat} (hz : nm.size ≤ 1048576 ∧ sx.size ≤ 1048576) (hs : SlF wx F lx (.slice A lx.length cx)) :
    DelAt w b c base (l.set i ⟨nm, .mk kx ix tx sx lx⟩) F ((((((wx.setCell ⟨b, i * 6, none⟩ (.string nm)).setCell ⟨b, i * 6 + 1, none⟩ (.int .i64 kx)).setCell ⟨b, i * 6 + 2, none⟩ (.int .i64 ix)).setCell ⟨b, i * 6 + 3, none⟩ (.int .i64 tx)).setCell ⟨b, i * 6 + 4, none⟩ (.string sx)).setCell ⟨b, i * 6 + 5, none⟩ (.slice A lx.length cx)) := by
  obtain ⟨xs, h1, h2⟩ := h.rep
  have s0 := h1.stored (i * 6) (.string nm)
  have s1 := s0.1.stored (i * 6 + 1) (.int .i64 kx)
  have s2 := s1.1.stored (i * 6 + 2) (.int .i64 ix)
  have s3 := s2.1.stored (i * 6 + 3) (.int .i64 tx)
  have s4 := s3.1.stored (i * 6 + 4) (.string sx)
  have s5 := s4.1.stored (i * 6 + 5) (.slice A lx.length cx)
  have hl := h1.1
  have e6 := six_set xs (i * 6) (.string nm) (.int .i64 kx) (.int .i64 ix) (.int .i64 tx) (.string sx) (.slice A lx.length cx) (by omega)
  have hsz := h.size
  have hblk : ∀ k, k ≠ b → ((((((wx.setCell ⟨b, i * 6, none⟩ (.string nm)).setCell ⟨b, i * 6 + 1, none⟩ (.int .i64 kx)).setCell ⟨b, i * 6 + 2, none⟩ (.int .i64 ix)).setCell ⟨b, i * 6 + 3, none⟩ (.int .i64 tx)).setCell ⟨b, i * 6 + 4, none⟩ (.string sx)).setCell ⟨b, i * 6 + 5, none⟩ (.slice A lx.length cx)).heap[k]? = wx.heap[k]? := fun k hk =>
    have hb : ∀ (W : World) (o : Nat) (u : Value), (W.setCell ⟨b, o, none⟩ u).heap[k]? = W.heap[k]? := fun W o u => heap_setCell_other W ⟨b, o, none⟩ k u (fun e => hk (by simp [e]))
    (hb _ _ _).trans ((hb _ _ _).trans ((hb _ _ _).trans ((hb _ _ _).trans ((hb _ _ _).trans (hb _ _ _)))))
  have o6 := (s5.2.os.trans (s4.2.os.trans (s3.2.os.trans (s2.2.os.trans (s1.2.os.trans s0.2.os))))).trans h.os
  have t6 := (s5.2.tape.trans (s4.2.tape.trans (s3.2.tape.trans (s2.2.tape.trans (s1.2.tape.trans s0.2.tape))))).trans h.tape
  have u6 := (s5.2.output.trans (s4.2.output.trans (s3.2.output.trans (s2.2.output.trans (s1.2.output.trans s0.2.output))))).trans h.output
  have z6 := Nat.le_trans hsz (Nat.le_trans s0.2.size (Nat.le_trans s1.2.size (Nat.le_trans s2.2.size (Nat.le_trans s3.2.size (Nat.le_trans s4.2.size s5.2.size)))))
  refine ⟨o6, t6, u6, z6, fun k hk hne => (hblk k hne).trans (h.block k hk hne), xs.take (i * 6) ++ [.string nm, .int .i64 kx, .int .i64 ix, .int .i64 tx, .string sx, .slice A lx.length cx] ++ xs.drop (i * 6 + 6), ?_, ?_⟩
  · have := s5.1
    rw [e6] at this
    rw [List.length_set]
    exact this
  · exact (PRep.set hz.1 hz.2 hs h2 hi).keep (fun k hk => hblk k (hF k hk).2) (fun _ h => h)
theorem own_setCells {b c base n : Nat} {e : TypeId} {size : Nat} : ∀ (vs : List Value) (o : Nat) (w : World) (xs : List Value), w.ownsRow base e size (.slice (some ⟨b, 0, none⟩) n c) n xs →
    ∃ xs', (w.setCells b o vs).ownsRow base e size (.slice (some ⟨b, 0, none⟩) n c) n xs' ∧ xs'.take o = xs.take o ∧ w.grownBy (w.setCells b o vs) (some b)
  | [], o, w, xs, h => ⟨xs, h, rfl, ⟨rfl, rfl, rfl, Nat.le_refl _, fun _ _ _ => rfl⟩⟩
  | v :: vs, o, w, xs, h => by
    have s := h.stored o v
    obtain ⟨xs', h1, h2, h3⟩ := own_setCells vs (o + 1) _ _ s.1
    refine ⟨xs', h1, ?_, ⟨h3.os.trans s.2.os, h3.tape.trans s.2.tape, h3.output.trans s.2.output, Nat.le_trans s.2.size h3.size, fun k hk hne => (h3.block k (Nat.lt_of_lt_of_le hk s.2.size) hne).trans (s.2.block k hk hne)⟩⟩
    have h4 := congrArg (List.take o) h2
    rw [List.take_take, List.take_take, Nat.min_eq_left (by omega), List.take_set_of_le (by omega)] at h4
    exact h4
theorem own_cut {w : World} {b c base n i : Nat} {e : TypeId} {xs : List Value} (h : w.ownsRow base e 6 (.slice (some ⟨b, 0, none⟩) n c) n xs) (hi : i ≤ n) : w.ownsRow base e 6 (.slice (some ⟨b, 0, none⟩) i c) i (xs.take (i * 6)) := by
  have hl := h.1
  rcases h.2 with ⟨h', _⟩ | ⟨g', cap', cur, h', hb, hg, hnc, hcm, hcs, htake⟩
  · simp at h'
  · simp only [Value.slice.injEq, Option.some.injEq, Addr.mk.injEq, and_true, true_and] at h'
    obtain ⟨rfl, rfl⟩ := h'
    refine ⟨by rw [List.length_take]; omega, .inr ⟨b, c, cur, rfl, hb, hg, by omega, hcm, hcs, ?_⟩⟩
    rw [← htake, List.take_take, Nat.min_eq_left (by omega)]
theorem DelAt.cleared {w wx : World} {b c base i : Nat} {l : List PV} {F : Nat → Prop} (h : DelAt w b c base l F wx) (hF : ∀ k, F k → k < w.heap.size ∧ k ≠ b) (hi : i ≤ l.length) (vs : List Value) : DelAt w b c base (l.take i) F (wx.setCells b (i * 6) vs) := by
  obtain ⟨xs, h1, h2⟩ := h.rep
  obtain ⟨xs', g1, g2, g3⟩ := own_setCells vs (i * 6) wx xs h1
  have hsz := h.size
  have hl : (l.take i).length = i := by rw [List.length_take]; omega
  refine ⟨g3.os.trans h.os, g3.tape.trans h.tape, g3.output.trans h.output, Nat.le_trans hsz g3.size, fun k hk hne => (g3.block k (by omega) (by simpa using hne)).trans (h.block k hk hne), xs.take (i * 6), ?_, ?_⟩
  · rw [hl, ← g2]
    exact own_cut g1 hi
  · exact (h2.takeN i).keep (fun k hk => g3.block k (by have := (hF k hk).1; omega) (by simpa using (hF k hk).2)) (fun _ h => h)
def zeroPr : Value := .agg #[.string ⟨#[]⟩, .int .i64 0, .int .i64 0, .int .i64 0, .string ⟨#[]⟩, .slice none 0 0]
theorem zeroPr_run (W : World) : (zeroValue 59).run Tryd.prog W = .ok zeroPr W := by kernel_rfl
theorem zeroPr_cells : zeroPr.cells = #[.string ⟨#[]⟩, .int .i64 0, .int .i64 0, .int .i64 0, .string ⟨#[]⟩, .slice none 0 0] := by kernel_rfl
theorem zeroPr_one (n : Nat) : ∀ u ∈ (Builtin.zeroCells zeroPr.cells n).toList, u.oneCell' = true := by
  intro u hu
  rw [zeroPr_cells] at hu
  simp only [Builtin.zeroCells, Array.toList_map, List.mem_map] at hu
  obtain ⟨a, _, rfl⟩ := hu
  have h := Nat.mod_lt a (show 0 < 6 by omega)
  show (#[Value.string ⟨#[]⟩, .int .i64 0, .int .i64 0, .int .i64 0, .string ⟨#[]⟩, .slice none 0 0][a % 6]!).oneCell' = true
  generalize a % 6 = r at h
  match r, h with
  | 0, _ => rfl
  | 1, _ => rfl
  | 2, _ => rfl
  | 3, _ => rfl
  | 4, _ => rfl
  | 5, _ => rfl
theorem zeroPr_len (n : Nat) : (Builtin.zeroCells zeroPr.cells n).toList.length = n * 6 := by
  rw [zeroPr_cells]
  simp [Builtin.zeroCells]
def Deleted (w : World) (b c base : Nat) (l : List PV) (q : ByteArray) (F : Nat → Prop) (e : Ending) (wx : World) : Prop :=
  e = .returned (.slice (some ⟨b, 0, none⟩) (woL l q).length c) ∧ DelAt w b c base (woL l q) F wx

end Go.Proofs.YtfpiannnggkdiaaDoor
namespace Go.Proofs.YtfpiannnggkdiaaDoor
open Go.RowKit Go.Shelf

structure PItem where
  p : PV
  A : Option Addr
  c : Nat
instance : Inhabited PItem := ⟨⟨⟨⟨#[]⟩, .mk 0 0 0 ⟨#[]⟩ []⟩, none, 0⟩⟩
def encI : PItem → List Value
  | ⟨⟨nm, .mk k i t s l⟩, A, c⟩ => [.string nm, .int .i64 k, .int .i64 i, .int .i64 t, .string s, .slice A l.length c]
theorem encI_len (x : PItem) : (encI x).length = 6 := by
  obtain ⟨⟨nm, ⟨k, i, t, s, l⟩⟩, A, c⟩ := x
  rfl
theorem encI_one (x : PItem) : ∀ v ∈ encI x, v.oneCell' = true := by
  obtain ⟨⟨nm, ⟨k, i, t, s, l⟩⟩, A, c⟩ := x
  intro v hv
  simp only [encI, List.mem_cons, List.not_mem_nil, or_false] at hv
  rcases hv with rfl | rfl | rfl | rfl | rfl | rfl <;> rfl
def GoodI (w : World) (F : Nat → Prop) : PItem → Prop
  | ⟨⟨nm, .mk _ _ _ s l⟩, A, c⟩ => nm.size ≤ 1048576 ∧ s.size ≤ 1048576 ∧ SlF w F l (.slice A l.length c)
theorem PRep.items {w : World} {F : Nat → Prop} : ∀ {L : List PV} {xs : List Value}, PRep w F L xs → ∃ d : List PItem, d.map (·.p) = L ∧ xs = d.flatMap encI ∧ ∀ x ∈ d, GoodI w F x
  | [], xs, h => ⟨[], rfl, h, fun _ h => by simp at h⟩
  | ⟨nm, .mk k i t s l⟩ :: r, xs, h => by
    obtain ⟨A, c, ys, rfl, h2, h3, h4, h5⟩ := h
    obtain ⟨d, e1, e2, e3⟩ := PRep.items h5
    refine ⟨⟨⟨nm, .mk k i t s l⟩, A, c⟩ :: d, by simp [e1], by simp [e2, encI], fun x hx => ?_⟩
    rcases List.mem_cons.1 hx with rfl | hx
    · exact ⟨h2, h3, h4⟩
    · exact e3 x hx
theorem rep_of_items {w : World} {F : Nat → Prop} : ∀ (d : List PItem), (∀ x ∈ d, GoodI w F x) → PRep w F (d.map (·.p)) (d.flatMap encI)
  | [], _ => rfl
  | ⟨⟨nm, .mk k i t s l⟩, A, c⟩ :: d, h => by
    have h0 := h _ (List.mem_cons_self ..)
    exact ⟨A, c, d.flatMap encI, by simp [encI], h0.1, h0.2.1, h0.2.2, rep_of_items d (fun x hx => h x (List.mem_cons_of_mem _ hx))⟩
theorem flat_len : ∀ d : List PItem, (d.flatMap encI).length = d.length * 6
  | [] => rfl
  | x :: d => by rw [List.flatMap_cons, List.length_append, encI_len, flat_len d, List.length_cons]; omega
theorem flat_get : ∀ (d : List PItem) (t : Nat), t < d.length * 6 → (d.flatMap encI)[t]? = some ((encI d[t / 6]!)[t % 6]!)
  | [], t, h => absurd h (by simp)
  | x :: d, t, h => by
    rw [List.flatMap_cons]
    by_cases ht : t < 6
    · rw [List.getElem?_append_left (by rw [encI_len]; exact ht), Nat.div_eq_of_lt ht, Nat.mod_eq_of_lt ht]
      have hl : t < (encI x).length := by rw [encI_len]; exact ht
      rw [List.getElem?_eq_getElem hl]
      simp [hl]
    · obtain ⟨u, rfl⟩ : ∃ u, t = u + 6 := ⟨t - 6, by omega⟩
      rw [List.length_cons] at h
      rw [List.getElem?_append_right (by rw [encI_len]; omega), encI_len, Nat.add_sub_cancel, flat_get d u (by omega), Nat.add_div_right _ (by omega), Nat.add_mod_right]
      simp
theorem flatK_get (d : List PItem) (t : Nat) (h : t < d.length * 6) : (d.flatMap encI)[t]? = some ((Go.Sort.flatK encI 6 d.toArray)[t]!) := by
  rw [Go.Sort.get_flatK encI 6 d.toArray t (by simpa using h), flat_get d t h]
  simp
/-- A row of one's own holds its items. -/
theorem own_holds {w : World} {b c base : Nat} {d : List PItem} (h : w.ownsRow base 59 6 (.slice (some ⟨b, 0, none⟩) d.length c) d.length (d.flatMap encI)) : Go.Sort.HoldsK encI 6 w b 0 d.toArray := by
  intro j hj
  rw [Go.Sort.size_flatK] at hj
  have hj2 : j < d.length * 6 := by simpa using hj
  refine ⟨?_, by rw [Nat.zero_add]; exact h.frozenAt j⟩
  rw [Nat.zero_add, h.cellAt j hj2, flatK_get d j hj2]
  rfl
/-- .. and after a sort. -/
theorem own_sorted {w : World} {b c base : Nat} {d : List PItem} {d' : Array PItem} (h : w.ownsRow base 59 6 (.slice (some ⟨b, 0, none⟩) d.length c) d.length (d.flatMap encI)) (hs : d'.size = d.length) (m : Nat) (os : Array Obj) :
    (sortWorldK encI 6 w b 0 m d' os).ownsRow base 59 6 (.slice (some ⟨b, 0, none⟩) d.length c) d.length (d'.toList.flatMap encI) ∧ w.grownBy (sortWorldK encI 6 w b 0 m d' os) (some b) := by
  have hlt := (h.lt b rfl).2
  have hl := h.1
  rcases h.2 with ⟨h', _⟩ | ⟨g', cap', cur, h', hb, hg, hnc, hcm, hcs, htake⟩
  · simp at h'
  · simp only [Value.slice.injEq, Option.some.injEq, Addr.mk.injEq, and_true, true_and] at h'
    obtain ⟨rfl, rfl⟩ := h'
    have hheap : ∀ k, k < w.heap.size → (sortWorldK encI 6 w b 0 m d' os).heap[k]? = (Go.Sort.putRowK encI 6 w b 0 d').heap[k]? := fun k hk => by
      unfold sortWorldK
      rw [Go.Sort.heap_grow_old _ _ (by rw [Go.Sort.putRowK, Go.Sort.size_putRow]; exact hk)]
      rfl
    have hput : ∀ k, (Go.Sort.putRowK encI 6 w b 0 d').heap[k]? = if b = k then (w.heap[k]?).map (Go.Sort.onCells (Go.Sort.putCells id 0 (Go.Sort.flatK encI 6 d'))) else w.heap[k]? := fun k => by
      unfold Go.Sort.putRowK Go.Sort.putRow Go.Sort.mapBlock
      simp only [Array.getElem?_modify]
    refine ⟨⟨by rw [flat_len]; simp [hs], .inr ⟨b, c, Go.Sort.putCells id 0 (Go.Sort.flatK encI 6 d') cur, rfl, hb, ?_, hnc, hcm, by simp [Go.Sort.putCells, hcs], ?_⟩⟩, ?_⟩
    · rw [hheap b hlt, hput b, if_pos rfl, hg]
      rfl
    · apply List.ext_getElem?
      intro t
      by_cases ht : t < d.length * 6
      · rw [List.getElem?_take, if_pos ht, flat_get d'.toList t (by simpa [hs] using ht)]
        have hF : t < (Go.Sort.flatK encI 6 d').size := by rw [Go.Sort.size_flatK, hs]; exact ht
        have e := Go.Sort.get_flatK encI 6 d' t (by rw [hs]; exact ht)
        have hcur : t < cur.size := by rw [hcs]; omega
        have hq : t / 6 < d'.size := by rw [hs]; omega
        have e2 : d'.toList[t / 6]! = d'[t / 6]! := by
          rw [getElem!_pos d' _ hq, getElem!_pos d'.toList _ (by simpa using hq)]
          exact Array.getElem_toList ..
        simp only [Go.Sort.putCells, Array.getElem?_toList, Array.getElem?_mapIdx, Array.getElem?_eq_getElem hcur, Option.map_some, Nat.zero_le, true_and, Nat.zero_add, hF, if_true, id, Nat.sub_zero, e, e2]
      · rw [List.getElem?_take, if_neg ht, List.getElem?_eq_none (by rw [flat_len]; simp [hs]; omega)]
    · refine ⟨rfl, rfl, rfl, ?_, fun k hk hne => ?_⟩
      · unfold sortWorldK
        rw [Go.Sort.size_grow, Go.Sort.putRowK, Go.Sort.size_putRow]
        exact Nat.le_add_right _ _
      · rw [hheap k hk, hput k, if_neg (fun e => hne (by rw [e]))]
/-- A list of one's own lies in memory. -/
theorem rep_prow {w : World} {F : Nat → Prop} {B : Nat} (hF : ∀ k, F k → k < B) : ∀ {L : List PV} {xs : List Value} (b off : Nat), b < B → PRep w F L xs → (∀ j u, xs[j]? = some u → w.cell? ⟨b, off + j, none⟩ = some u) → PRow w B L b off
  | [], _, _, _, _, _, _ => trivial
  | ⟨nm, .mk k i t s l⟩ :: r, xs, b, off, hb, h, hc => by
    obtain ⟨A, c, ys, rfl, h2, h3, h4, h5⟩ := h
    unfold PRow
    refine ⟨⟨hb, hc 0 _ rfl, h2, ?_⟩, rep_prow hF b (off + 6) hb h5 (fun j u hj => ?_)⟩
    · obtain ⟨A', c', e, g1, g2, g3⟩ := h4.toAt (B := B) hF
      injection e with e1 e2 e3
      subst e1 e3
      unfold CellsAt
      exact ⟨hb, hc 1 _ rfl, hc 2 _ rfl, hc 3 _ rfl, hc 4 _ rfl, h3, A, c, hc 5 _ rfl, g1, g2, g3⟩
    · have := hc (j + 6) u (by simpa using hj)
      rw [show off + (j + 6) = off + 6 + j by omega] at this
      exact this
theorem PrOwn.psl {w wx : World} {B0 : Nat} {L : List PV} {v : Value} (h : PrOwn w B0 L v wx) (hl : L.length ≤ 1048576) : PSl wx wx.heap.size L v := by
  obtain ⟨F, xs, hown, hrep, hF, hFo⟩ := h.rep
  rcases hown.2 with ⟨e1, e2⟩ | ⟨g, cap, cur, e1, hb, hg, hnc, hcm, hcs, htake⟩
  · have hL : L = [] := List.eq_nil_of_length_eq_zero e2
    subst hL
    exact ⟨none, 0, e1, by simp, by simp, .inl rfl⟩
  · refine ⟨_, cap, e1, hl, hnc, .inr ⟨g, 0, rfl, ?_⟩⟩
    have hlt := (hown.lt g (by rw [e1]; rfl)).2
    refine rep_prow (fun k hk => (hF k hk).1) g 0 hlt hrep (fun j u hj => ?_)
    rw [e1] at hown
    have hj2 : j < L.length * 6 := by
      have := (List.getElem?_eq_some_iff.1 hj).1
      rw [hown.1] at this
      exact this
    rw [Nat.zero_add, hown.cellAt j hj2]
    exact hj
end Go.Proofs.YtfpiannnggkdiaaDoor
