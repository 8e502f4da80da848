/- Rows of values of one's own; a box that holds such a list; what add makes of it. The program's mergeItems: add. The program's mergeItems: the closure add. -/
import Derived.Test.YtfpiannnggkdiaaDoorMaX
import Derived.Test.YtfpiannnggkdiaaDoorWoX
import Derived.Deep.AppendLies
import Derived.Deep.RegionLaw
import Derived.Deep.RegionHeld3
import Derived.BigRegion
namespace Go.Proofs.YtfpiannnggkdiaaDoor
open Go.RowKit Go.Shelf

def VRep (w : World) (F : Nat → Prop) : List V → List Value → Prop
  | [], xs => xs = []
  | .mk k i t s l :: r, xs => ∃ A c ys, xs = .int .i64 k :: .int .i64 i :: .int .i64 t :: .string s :: .slice A l.length c :: ys ∧ s.size ≤ 1048576 ∧ SlF w F l (.slice A l.length c) ∧ VRep w F r ys
theorem VRep.keep {w w' : World} {F G : Nat → Prop} (hk : ∀ b, F b → w'.heap[b]? = w.heap[b]?) (hFG : ∀ b, F b → G b) : ∀ {l : List V} {xs : List Value}, VRep w F l xs → VRep w' G l xs
  | [], _, h => h
  | .mk k i t s l :: r, xs, h => by
    obtain ⟨A, c, ys, h1, h2, h3, h4⟩ := h
    exact ⟨A, c, ys, h1, h2, h3.keep hk hFG, VRep.keep hk hFG h4⟩
theorem VRep.snoc {w : World} {F : Nat → Prop} {k i t : Int} {s : ByteArray} {l : List V} {A : Option Addr} {c : Nat} (h2 : s.size ≤ 1048576) (h3 : SlF w F l (.slice A l.length c)) : ∀ {L : List V} {xs : List Value}, VRep w F L xs → VRep w F (L ++ [.mk k i t s l]) (xs ++ [.int .i64 k, .int .i64 i, .int .i64 t, .string s, .slice A l.length c])
  | [], xs, h => by
    have h : xs = [] := h
    subst h
    exact ⟨A, c, [], rfl, h2, h3, rfl⟩
  | .mk k' i' t' s' l' :: r, xs, h => by
    obtain ⟨A', c', ys, rfl, g3, g4, g5⟩ := h
    exact ⟨A', c', _, rfl, g3, g4, VRep.snoc h2 h3 g5⟩
theorem vrep_row {w : World} {F : Nat → Prop} {B : Nat} (hF : ∀ k, F k → k < B) : ∀ {L : List V} {xs : List Value} (b off : Nat), b < B → VRep w F L xs → (∀ j u, xs[j]? = some u → w.cell? ⟨b, off + j, none⟩ = some u) → RowAt w B L b off
  | [], _, _, _, _, _, _ => by unfold RowAt; trivial
  | .mk k i t s l :: r, xs, b, off, hb, h, hc => by
    obtain ⟨A, c, ys, rfl, h3, h4, h5⟩ := h
    unfold RowAt
    refine ⟨?_, vrep_row hF b (off + 5) hb h5 (fun j u hj => ?_)⟩
    · obtain ⟨A', c', e, g1, g2, g3⟩ := h4.toAt (B := B) hF
      injection e with e1 e2 e3
      subst e1 e3
      unfold CellsAt
      exact ⟨hb, hc 0 _ rfl, hc 1 _ rfl, hc 2 _ rfl, hc 3 _ rfl, h3, A, c, hc 4 _ rfl, g1, g2, g3⟩
    · have := hc (j + 5) u (by simpa using hj)
      rw [show off + (j + 5) = off + 5 + j by omega] at this
      exact this
theorem vown_sl {wx : World} {base : Nat} {F : Nat → Prop} {L : List V} {v : Value} {xs : List Value} (hown : wx.ownsRow base 53 5 v L.length xs) (hrep : VRep wx F L xs) (hF : ∀ k, F k → k < wx.heap.size) (hl : L.length ≤ 1048576) : SlAt wx wx.heap.size L v := by
  rcases hown.2 with ⟨e1, e2⟩ | ⟨g, cap, cur, e1, hb, hg, hnc, hcm, hcs, htake⟩
  · have hL : L = [] := List.eq_nil_of_length_eq_zero e2
    subst hL
    exact ⟨none, 0, e1, by simp, by simp, .inl rfl⟩
  · refine ⟨_, cap, e1, hl, hnc, .inr ⟨g, 0, rfl, ?_⟩⟩
    have hlt := (hown.lt g (by rw [e1]; rfl)).2
    refine vrep_row hF g 0 hlt hrep (fun j u hj => ?_)
    rw [e1] at hown
    have hj2 : j < L.length * 5 := by
      have := (List.getElem?_eq_some_iff.1 hj).1
      rw [hown.1] at this
      exact this
    rw [Nat.zero_add, hown.cellAt j hj2]
    exact hj
theorem vrep_rowF {w : World} {F G : Nat → Prop} (hF : ∀ k, F k → G k) : ∀ {L : List V} {xs : List Value} (b off : Nat), G b → VRep w F L xs → (∀ j u, xs[j]? = some u → w.cell? ⟨b, off + j, none⟩ = some u) → RowF w G L b off
  | [], _, _, _, _, _, _ => by unfold RowF; trivial
  | .mk k i t s l :: r, xs, b, off, hb, h, hc => by
    obtain ⟨A, c, ys, rfl, h3, h4, h5⟩ := h
    unfold RowF
    refine ⟨?_, vrep_rowF hF b (off + 5) hb h5 (fun j u hj => ?_)⟩
    · obtain ⟨A', c', e, g1, g2, g3⟩ := h4.keep (w' := w) (G := G) (fun _ _ => rfl) hF
      injection e with e1 e2 e3
      subst e1 e3
      unfold CellsF
      exact ⟨hb, hc 0 _ rfl, hc 1 _ rfl, hc 2 _ rfl, hc 3 _ rfl, h3, A, c, hc 4 _ rfl, g1, g2, g3⟩
    · have := hc (j + 5) u (by simpa using hj)
      rw [show off + (j + 5) = off + 5 + j by omega] at this
      exact this
theorem vown_slF {wx : World} {base : Nat} {F G : Nat → Prop} {L : List V} {v : Value} {xs : List Value} (hown : wx.ownsRow base 53 5 v L.length xs) (hrep : VRep wx F L xs) (hF : ∀ k, F k → G k) (hG : ∀ g, base ≤ g → g < wx.heap.size → G g) (hl : L.length ≤ 1048576) : SlF wx G L v := by
  rcases hown.2 with ⟨e1, e2⟩ | ⟨g, cap, cur, e1, hb, hg, hnc, hcm, hcs, htake⟩
  · have hL : L = [] := List.eq_nil_of_length_eq_zero e2
    subst hL
    exact ⟨none, 0, e1, by simp, by simp, .inl rfl⟩
  · refine ⟨_, cap, e1, hl, hnc, .inr ⟨g, 0, rfl, ?_⟩⟩
    have hlt := (hown.lt g (by rw [e1]; rfl)).2
    refine vrep_rowF hF g 0 (hG g hb hlt) hrep (fun j u hj => ?_)
    rw [e1] at hown
    have hj2 : j < L.length * 5 := by
      have := (List.getElem?_eq_some_iff.1 hj).1
      rw [hown.1] at this
      exact this
    rw [Nat.zero_add, hown.cellAt j hj2]
    exact hj
/-- The box ib holds a list of one's own; all else below base is as it was. -/
structure ItemSt (w0 : World) (ib base B0 : Nat) (T : TypeId) (pre suf : List Value) (L : List V) (wx : World) : Prop where
  os : wx.os = w0.os
  tape : wx.tape = w0.tape
  output : wx.output = w0.output
  size : base ≤ wx.heap.size
  le : B0 ≤ base
  block : ∀ k, k < base → k ≠ ib → wx.heap[k]? = w0.heap[k]?
  rep : ∃ (F : Nat → Prop) (xs : List Value) (A : Option Addr) (c : Nat), wx.heap[ib]? = some (.cells (pre ++ .slice A L.length c :: suf).toArray T (0, 0)) ∧ wx.ownsRow base 53 5 (.slice A L.length c) L.length xs ∧ VRep wx F L xs ∧ (∀ k, F k → k < B0) ∧ ∀ g, (Value.slice A L.length c).ownBlock = some g → ¬ F g
theorem ItemSt.later {w0 w w' : World} {ib base B0 : Nat} {T : TypeId} {pre suf : List Value} {L : List V} (h : ItemSt w0 ib base B0 T pre suf L w) (hb : Below w.heap.size w w') : ItemSt w0 ib base B0 T pre suf L w' := by
  have hs := h.size
  have hle := h.le
  obtain ⟨F, xs, A, c, h1, h2, h3, h4, h5⟩ := h.rep
  exact ⟨hb.os.trans h.os, hb.tape.trans h.tape, hb.output.trans h.output, Nat.le_trans hs hb.size, hle, fun k hk hne => (hb.block k (by omega)).trans (h.block k hk hne), F, xs, A, c, (hb.block _ (lt_of_blk' h1)).trans h1, own_kept h2 (fun g hg => hb.block g (h2.lt g hg).2), h3.keep (fun k hk => hb.block k (by have := h4 k hk; omega)) (fun _ h => h), h4, h5⟩
/-- What add makes of a list. -/
def addL (L : List V) (p : V → Bool) : List V → List V
  | [] => L
  | x :: r => addL (if p x && !hasT L x then L ++ [x] else L) p r
theorem addL_snoc (p : V → Bool) : ∀ (l : List V) (L : List V) (x : V), addL L p (l ++ [x]) = if p x && !hasT (addL L p l) x then addL L p l ++ [x] else addL L p l
  | [], L, x => by rw [List.nil_append]; rfl
  | y :: l, L, x => by simp only [List.cons_append, addL]; exact addL_snoc p l _ x
theorem addL_take {l : List V} {j : Nat} (hj : j < l.length) (L : List V) (p : V → Bool) : addL L p (l.take (j + 1)) = if p l[j] && !hasT (addL L p (l.take j)) l[j] then addL L p (l.take j) ++ [l[j]] else addL L p (l.take j) := by
  rw [List.take_succ_eq_append_getElem hj, addL_snoc]
theorem addL_len (p : V → Bool) : ∀ (l L : List V), (addL L p l).length ≤ L.length + l.length
  | [], L => by simp [addL]
  | x :: l, L => by
    rw [addL]
    have h1 := addL_len p l (if p x && !hasT L x then L ++ [x] else L)
    have h2 : (if p x && !hasT L x then L ++ [x] else L).length ≤ L.length + 1 := by split <;> simp
    rw [List.length_cons]
    omega
theorem addL_mem (p : V → Bool) : ∀ (l L : List V) (y : V), y ∈ addL L p l → y ∈ L ∨ y ∈ l
  | [], L, y, h => .inl h
  | x :: l, L, y, h => by
    rw [addL] at h
    rcases addL_mem p l _ y h with h | h
    · split at h
      · rcases List.mem_append.1 h with h | h
        · exact .inl h
        · simp at h; exact .inr (by simp [h])
      · exact .inl h
    · exact .inr (List.mem_cons_of_mem _ h)
theorem five_set (xs : List Value) (i : Nat) (a b c d e : Value) (h : i + 5 = xs.length) : ((((xs.set i a).set (i + 1) b).set (i + 2) c).set (i + 3) d).set (i + 4) e = xs.take i ++ [a, b, c, d, e] := by
  apply List.ext_getElem?
  intro k
  simp only [List.getElem?_set, List.length_set]
  rcases Nat.lt_or_ge k i with hk | hk
  · rw [List.getElem?_append_left (by rw [List.length_take]; omega), List.getElem?_take]
    repeat rw [if_neg (by omega)]
    rw [if_pos hk]
  · rw [List.getElem?_append_right (by rw [List.length_take]; omega), List.length_take, Nat.min_eq_left (by omega)]
    obtain ⟨p, rfl⟩ : ∃ p, k = i + p := ⟨k - i, by omega⟩
    rw [Nat.add_sub_cancel_left]
    match p with
    | 0 => simp; omega
    | 1 => simp; omega
    | 2 => simp; omega
    | 3 => simp; omega
    | 4 => simp; omega
    | p + 5 =>
      repeat rw [if_neg (by omega)]
      rw [List.getElem?_eq_none (by omega)]
      simp
end Go.Proofs.YtfpiannnggkdiaaDoor
namespace Go.Proofs.YtfpiannnggkdiaaDoor
open Go.RowKit Go.Shelf

theorem infoVv : (Tryd.prog.info? 53).map (fun i => (i.zero, i.size, i.bytes)) = some (some (.agg #[.int .i64 0, .int .i64 0, .int .i64 0, .string ⟨#[]⟩, .slice none 0 0]), 5, 64) := by kernel_rfl
theorem setCell_swap (w : World) {a b : Nat} (h : a ≠ b) (o p : Nat) (u v : Value) : (w.setCell ⟨a, o, none⟩ u).setCell ⟨b, p, none⟩ v = (w.setCell ⟨b, p, none⟩ v).setCell ⟨a, o, none⟩ u := by
  unfold World.setCell
  congr 1
  apply Array.ext_getElem?
  intro k
  simp only [Array.getElem?_modify]
  by_cases h1 : a = k
  · by_cases h2 : b = k
    · exact absurd (h1.trans h2.symm) h
    · simp [h1, h2]
  · by_cases h2 : b = k
    · simp [h1, h2]
    · simp [h1, h2]
theorem heap_setCell_at {W : World} {ib n : Nat} {cs : Array Value} {T : TypeId} {fr : Nat × Nat} (v : Value) (h : W.heap[ib]? = some (.cells cs T fr)) : (W.setCell ⟨ib, n, none⟩ v).heap[ib]? = some (.cells (cs.setIfInBounds n v) T fr) := by
  simp [World.setCell, Array.getElem?_modify, h]
set_option maxHeartbeats 4000000 in
/-- One value more in a box's list. -/
theorem ItemSt.push {w0 w w1 : World} {ib base B0 : Nat} {T : TypeId} {pre suf : List Value} {L : List V} (h : ItemSt w0 ib base B0 T pre suf L w) (hib : ib < base) (hB0 : B0 ≤ ib) {F : Nat → Prop} {xs : List Value} {A : Option Addr} {c : Nat}
    (h1 : w.heap[ib]? = some (.cells (pre ++ .slice A L.length c :: suf).toArray T (0, 0))) (h2 : w.ownsRow base 53 5 (.slice A L.length c) L.length xs) (h3 : VRep w F L xs) (h4 : ∀ k, F k → k < B0) (h5 : ∀ g, (Value.slice A L.length c).ownBlock = some g → ¬ F g)
    {k i t : Int} {s : ByteArray} {l : List V} {A' : Option Addr} {c' gg cap : Nat} {P : Nat → Prop} (hz : s.size ≤ 1048576) (hs : SlF w P l (.slice A' l.length c')) (hP : ∀ k, P k → k < B0) {zs : List Value} (hzl : zs.length = 5) {o : Obj}
    (ho : w1.ownsRow base 53 5 (.slice (some ⟨gg, 0, none⟩) (L.length + 1) cap) (L.length + 1) (xs ++ zs)) (hg : (w.alloc o).grownBy w1 (Value.slice A L.length c).ownBlock) (hat : (Value.slice A L.length c).ownBlock = some gg ∨ gg = w.heap.size + 1) :
    ItemSt w0 ib base B0 T pre suf (L ++ [.mk k i t s l]) ((((((w1.setCell ⟨gg, L.length * 5, none⟩ (.int .i64 k)).setCell ⟨gg, L.length * 5 + 1, none⟩ (.int .i64 i)).setCell ⟨gg, L.length * 5 + 2, none⟩ (.int .i64 t)).setCell ⟨gg, L.length * 5 + 3, none⟩ (.string s)).setCell ⟨gg, L.length * 5 + 4, none⟩ (.slice A' l.length c')).setCell ⟨ib, pre.length, none⟩ (.slice (some ⟨gg, 0, none⟩) (L.length + 1) cap)) := by
  have hsz := h.size
  have hlt : ∀ g, (Value.slice A L.length c).ownBlock = some g → base ≤ g ∧ g < w.heap.size := fun g hg => h2.lt g hg
  have hgs := hg.size
  simp only [World.size_alloc] at hgs
  have hxl : xs.length = L.length * 5 := h2.1
  have hggb : base ≤ gg := (ho.lt gg rfl).1
  have s0 := ho.stored (L.length * 5) (.int .i64 k)
  have s1 := s0.1.stored (L.length * 5 + 1) (.int .i64 i)
  have s2 := s1.1.stored (L.length * 5 + 2) (.int .i64 t)
  have s3 := s2.1.stored (L.length * 5 + 3) (.string s)
  have s4 := s3.1.stored (L.length * 5 + 4) (.slice A' l.length c')
  have e5 := five_set (xs ++ zs) (L.length * 5) (.int .i64 k) (.int .i64 i) (.int .i64 t) (.string s) (.slice A' l.length c') (by rw [List.length_append]; omega)
  rw [List.take_left' hxl] at e5
  obtain ⟨W5, hW5⟩ : ∃ W5, W5 = (((((w1.setCell ⟨gg, L.length * 5, none⟩ (.int .i64 k)).setCell ⟨gg, L.length * 5 + 1, none⟩ (.int .i64 i)).setCell ⟨gg, L.length * 5 + 2, none⟩ (.int .i64 t)).setCell ⟨gg, L.length * 5 + 3, none⟩ (.string s)).setCell ⟨gg, L.length * 5 + 4, none⟩ (.slice A' l.length c')) := ⟨_, rfl⟩
  have ho5 : W5.ownsRow base 53 5 (.slice (some ⟨gg, 0, none⟩) (L.length + 1) cap) (L.length + 1) (xs ++ [.int .i64 k, .int .i64 i, .int .i64 t, .string s, .slice A' l.length c']) := by
    rw [hW5, ← e5]
    exact s4.1
  have hb5 : ∀ q, q ≠ gg → W5.heap[q]? = w1.heap[q]? := fun q hq => by
    have hb : ∀ (W : World) (o : Nat) (u : Value), (W.setCell ⟨gg, o, none⟩ u).heap[q]? = W.heap[q]? := fun W o u => heap_setCell_other W ⟨gg, o, none⟩ q u (fun e => hq (by simp [e]))
    rw [hW5]
    exact (hb _ _ _).trans ((hb _ _ _).trans ((hb _ _ _).trans ((hb _ _ _).trans (hb _ _ _))))
  have hz5 : W5.heap.size = w1.heap.size := by rw [hW5]; simp [World.setCell]
  have ho5' : W5.os = w1.os ∧ W5.tape = w1.tape ∧ W5.output = w1.output := by rw [hW5]; exact ⟨s4.2.os.trans (s3.2.os.trans (s2.2.os.trans (s1.2.os.trans s0.2.os))), s4.2.tape.trans (s3.2.tape.trans (s2.2.tape.trans (s1.2.tape.trans s0.2.tape))), s4.2.output.trans (s3.2.output.trans (s2.2.output.trans (s1.2.output.trans s0.2.output)))⟩
  rw [← hW5]
  have hne : gg ≠ ib := by omega
  have hk4 : ∀ b, b < w.heap.size → (Value.slice A L.length c).ownBlock ≠ some b → b ≠ gg → W5.heap[b]? = w.heap[b]? := fun b hb hn hbg => by
    rw [hb5 b hbg, hg.block b (by simp; omega) (fun e => hn e.symm)]
    exact Below.heap_alloc _ _ _ hb
  have hnw : ∀ b, b < w.heap.size → (Value.slice A L.length c).ownBlock ≠ some b → b ≠ gg := fun b hb hn e => by
    subst e
    rcases hat with h | h
    · exact hn h
    · omega
  have hib5 : W5.heap[ib]? = some (.cells (pre ++ .slice A L.length c :: suf).toArray T (0, 0)) := (hk4 ib (lt_of_blk' h1) (fun e => by have := hlt ib e; omega) (Ne.symm hne)).trans h1
  have hset : ∀ q, q ≠ ib → (W5.setCell ⟨ib, pre.length, none⟩ (.slice (some ⟨gg, 0, none⟩) (L.length + 1) cap)).heap[q]? = W5.heap[q]? := fun q hq => heap_setCell_other W5 ⟨ib, pre.length, none⟩ q _ (fun e => hq (by simp [e]))
  refine ⟨ho5'.1.trans (hg.os.trans h.os), ho5'.2.1.trans (hg.tape.trans h.tape), ho5'.2.2.trans (hg.output.trans h.output), by simp [World.setCell]; omega, h.le, fun q hq hqi => ?_, fun q => F q ∨ P q, xs ++ [.int .i64 k, .int .i64 i, .int .i64 t, .string s, .slice A' l.length c'], some ⟨gg, 0, none⟩, cap, ?_, ?_, ?_, fun q hq => ?_, fun g hg2 => ?_⟩
  · rw [hset q hqi, hk4 q (by omega) (fun e => by have := hlt q e; omega) (by omega)]
    exact h.block q hq hqi
  · rw [heap_setCell_at _ hib5, List.length_append]
    simp
  · rw [List.length_append]
    exact own_kept ho5 (fun g hg3 => hset g (fun e => by simp only [Value.ownBlock, Option.some.injEq] at hg3; omega))
  · have hq1 : ∀ b, F b → W5.heap[b]? = w.heap[b]? := fun b hb => hk4 b (by have := h4 b hb; omega) (fun e => h5 b e hb) (hnw b (by have := h4 b hb; omega) (fun e => h5 b e hb))
    have hq2 : ∀ b, P b → W5.heap[b]? = w.heap[b]? := fun b hb => hk4 b (by have := hP b hb; omega) (fun e => by have := hlt b e; have := hP b hb; omega) (by have := hP b hb; omega)
    exact VRep.snoc hz (hs.keep (fun b hb => (hset b (by have := hP b hb; omega)).trans (hq2 b hb)) (fun b hb => .inr hb)) (h3.keep (fun b hb => (hset b (by have := h4 b hb; omega)).trans (hq1 b hb)) (fun b hb => .inl hb))
  · rcases hq with hq | hq
    · exact h4 q hq
    · exact hP q hq
  · simp only [Value.ownBlock, Option.some.injEq] at hg2
    subst hg2
    rcases hat with e | e
    · rintro (h6 | h6)
      · exact h5 _ e h6
      · have := hlt _ e; have := hP _ h6; omega
    · rintro (h6 | h6)
      · have := h4 _ h6; omega
      · have := hP _ h6; omega
end Go.Proofs.YtfpiannnggkdiaaDoor
namespace Go.Proofs.YtfpiannnggkdiaaDoor
open Go.RowKit Go.Shelf

/-- A function value that asks something of the values of a list, in whatever world of the box. -/
structure Wants (w0 : World) (ib base B0 : Nat) (T : TypeId) (pre suf : List Value) (l : List V) (K : Nat) (cap : Array Value) (p : V → Bool) : Prop where
  enter : ∀ (xs : Array Value) (W : World), (callFunc K xs).run Tryd.prog W = .ok (.enter K xs) W
  call : ∀ (W : World) (L : List V) (v : V) (g : Value), v ∈ l → ItemSt w0 ib base B0 T pre suf L W → VAt W W.heap.size v g → Calls Tryd.prog K (#[g] ++ cap) W (Quiet W (.bool (p v)))

set_option maxRecDepth 100000 in
set_option maxHeartbeats 8000000 in
theorem add_any (l : List V) (p : V → Bool) (K : Nat) (cap : Array Value) (A : Option Addr) (c ib base B0 : Nat) (L : List V) (w0 w : World) (hSt : ItemSt w0 ib base B0 51 [] [] L w) (hib : ib < base) (hB0 : B0 ≤ ib) (hB0w : B0 ≤ w0.heap.size)
    (hl : SlF w0 (fun k => k < B0) l (.slice A l.length c)) (hK : Wants w0 ib base B0 51 [] [] l K cap p) (hN : ∀ v, v ∈ L ∨ v ∈ l → nodesV v ≤ 1000) (hln : L.length + l.length ≤ 1000) :
    Calls Tryd.prog 77 #[.slice A l.length c, .func (Fn.func K) #[] cap, .pointer (some ⟨ib, 0, none⟩)] w fun e w' => e = .returned (.tuple #[]) ∧ ItemSt w0 ib base B0 51 [] [] (addL L p l) w' := by
  obtain ⟨i0, hi, hz0, hz1, hz2⟩ := info_parts infoVv
  have HK := Lib.hid hK
  have hen := hK.enter
  have HLL := Lib.hid hl
  have HNN := Lib.hid hN
  obtain ⟨n, hnn⟩ : ∃ n, n = l.length := ⟨_, rfl⟩
  have HN := Lib.hid hnn
  have hln2 : n ≤ 1000 := by omega
  have HLN := Lib.hid hln
  have HST := Lib.hid hSt
  rw [show (Value.slice A l.length c) = Value.slice A n c from by rw [hnn]]
  clear hnn hK hl hN hSt hln
  go_enter Tryd.func77, Tryd.ntmps77
  go_wp2_with fail
  go_loopw [9] (fun iv wx => ∃ j : Nat, iv = .int .i64 j ∧ j ≤ n ∧ Hid (ItemSt w0 ib base B0 51 [] [] (addL L p (l.take j)) wx)) (fun iv _ => n - (intOf iv).toNat)
  case atStart => exact ⟨0, rfl, Nat.zero_le _, Lib.hid (by simpa [addL] using HST.out)⟩
  case round =>
    obtain ⟨j, rfl, hjl, HR⟩ := hrel
    by_cases hj : j < n
    · have hj2 : j < l.length := by rw [← HN.out]; exact hj
      have p2 : (j : Int) < n := by omega
      have hszb := HR.out.size
      have hsl : SlAt wr wr.heap.size l (.slice A l.length c) := (HLL.out.keep (w' := wr) (G := fun k => k < B0) (fun b hb => HR.out.block b (by omega) (by omega)) (fun _ h => h)).toAt (fun b hb => by omega)
      have hslF := HLL.out.keep (w' := wr) (G := fun k => k < B0) (fun b hb => HR.out.block b (by omega) (by omega)) (fun _ h => h)
      obtain ⟨b, off, kx, ix, tx, sx, lx, Ax, cx, rfl, hx, hlt, g0, g1, g2, g3, g4, gz, gl, gs⟩ := val_item hsl hj2
      have hbB0 : b < B0 ∧ SlF wr (fun k => k < B0) lx (.slice Ax lx.length cx) := by
        obtain ⟨A1, c1, e1, _, _, h8⟩ := hslF
        rcases h8 with h8 | ⟨b1, o1, e2, h8⟩
        · rw [h8] at hj2; exact absurd hj2 (by simp)
        · simp only [Value.slice.injEq] at e1
          obtain ⟨rfl, _, _⟩ := e1
          simp only [Option.some.injEq, Addr.mk.injEq, and_true] at e2
          obtain ⟨rfl, rfl⟩ := e2
          have h9 := row_item l b off j h8 hj2
          rw [hx] at h9
          unfold CellsF at h9
          obtain ⟨q0, _, _, _, _, _, A3, c3, q5, q6, q7, q8⟩ := h9
          refine ⟨q0, ?_⟩
          have e5 : some (Value.slice Ax lx.length cx) = some (Value.slice A3 lx.length c3) := g4.symm.trans q5
          rw [Option.some.inj e5]
          exact ⟨A3, c3, rfl, q6, q7, q8⟩
      have hxm : (.mk kx ix tx sx lx : V) ∈ l := by rw [← hx]; exact List.getElem_mem hj2
      obtain ⟨F, xs, A6, c6, k1, k2, k3, k4, k5⟩ := HR.out.rep
      have HK1 := Lib.hid k1
      have HK2 := Lib.hid k2
      have HK3 := Lib.hid k3
      have HK4 := Lib.hid k4
      have HK5 := Lib.hid k5
      clear k1 k2 k3 k4 k5
      have HX := Lib.hid hx
      have HSF := Lib.hid hbB0.2
      have HGS := Lib.hid gs
      have HST2 := Lib.hid HR.out
      obtain ⟨m, hm⟩ : ∃ m, m = lx.length := ⟨_, rfl⟩
      have HM := Lib.hid hm
      have hb0 : ∀ o, Below wr.heap.size wr (wr.alloc o) := fun o => (Below.refl _ wr).alloc (Nat.le_refl _) o
      have HC := Lib.hid (fun o => HK.out.call (wr.alloc o) (addL L p (l.take j)) (.mk kx ix tx sx lx) (.agg #[.int .i64 kx, .int .i64 ix, .int .i64 tx, .string sx, .slice Ax lx.length cx]) hxm (HR.out.later (hb0 o)) ⟨gz, _, rfl, (gs.below (hb0 o) (Nat.le_refl _)).up (hb0 o).size⟩)
      rw [← hm] at g4 HC
      have hfl := addL_len p (l.take j) L
      rw [List.length_take] at hfl
      have hfl2 : (addL L p (l.take j)).length ≤ 1000 := by have := HLN.out; omega
      have HADD := Lib.hid (addL_take hj2 L p)
      have HMEM : Hid (∀ v ∈ addL L p (l.take j), nodesV v ≤ 1000) := Lib.hid (fun v hv => HNN.out v (by
        rcases addL_mem p _ _ v hv with h | h
        · exact .inl h
        · exact .inr (List.mem_of_mem_take h)))
      clear gs hm hx gl hsl hslF hbB0 HR hfl hxm hb0
      rcases hp : p (.mk kx ix tx sx lx) with _ | _
      · have HNEXT : Hid (addL L p (l.take (j + 1)) = addL L p (l.take j)) := Lib.hid (by rw [HADD.out, HX.out, hp]; rfl)
        rw [hp] at HC
        clear hp
        go_wp2_with fail
        refine (HC.out _).mono ?_
        rintro e6 w6 ⟨rfl, hb6⟩
        have HS6 : Hid (ItemSt w0 ib base B0 51 [] [] (addL L p (l.take (j + 1))) w6) := Lib.hid (by rw [HNEXT.out]; exact (HST2.out.later ((Below.refl _ wr).alloc (Nat.le_refl _) _)).later hb6)
        clear hb6
        go_wp2_with fail
        go_roundw
        case rel => exact ⟨j + 1, by go_num, hj, HS6⟩
        case measure => simp [intOf]; omega
      · rw [hp] at HC
        go_wp2_with fail
        refine (HC.out _).mono ?_
        rintro e6 w6 ⟨rfl, hb6⟩
        have hS6 := (HST2.out.later ((Below.refl _ wr).alloc (Nat.le_refl _) (.cells #[.int .i64 kx, .int .i64 ix, .int .i64 tx, .string sx, .slice Ax m cx] 53))).later hb6
        have hbx : w6.heap[wr.heap.size]? = some (.cells #[.int .i64 kx, .int .i64 ix, .int .i64 tx, .string sx, .slice Ax m cx] 53 (0, 0)) := (hb6.block _ (by simp)).trans (heap_alloc_new wr _)
        have hb16 : Below wr.heap.size wr w6 := ((Below.refl _ wr).alloc (Nat.le_refl _) (.cells #[.int .i64 kx, .int .i64 ix, .int .i64 tx, .string sx, .slice Ax m cx] 53)).trans (hb6.mono (by simp))
        have hszr := hb16.size
        have x0 := cell_of_row w6 _ 0 _ _ (0, 0) hbx
        have x1 := cell_of_row w6 _ 1 _ _ (0, 0) hbx
        have x2 := cell_of_row w6 _ 2 _ _ (0, 0) hbx
        have x3 := cell_of_row w6 _ 3 _ _ (0, 0) hbx
        have x4 := cell_of_row w6 _ 4 _ _ (0, 0) hbx
        have k1 := (hb16.block _ (lt_of_blk' HK1.out)).trans HK1.out
        have k2 := own_kept HK2.out (fun g hg => hb16.block g (HK2.out.lt g hg).2)
        have k3 := HK3.out.keep (w' := w6) (fun k hk => hb16.block k (by have := HK4.out k hk; omega)) (fun _ h => h)
        have k4 := HK4.out
        have k6 : ∀ g, (Value.slice A6 (addL L p (l.take j)).length c6).ownBlock = some g → g < wr.heap.size := fun g hg => (HK2.out.lt g hg).2
        have y0 := cell_of_row w6 ib 0 _ _ (0, 0) k1
        have HGS6 := Lib.hid ((HGS.out.below hb16 (Nat.le_refl _)).up hb16.size)
        have HSF6 := Lib.hid (HSF.out.keep (w' := w6) (G := fun k => k < B0) (fun b hb => hb16.block b (by omega)) (fun _ h => h))
        have HH := Lib.hid (has_any (addL L p (l.take j)) A6 c6 (.mk kx ix tx sx lx) (.agg #[.int .i64 kx, .int .i64 ix, .int .i64 tx, .string sx, .slice Ax lx.length cx]) w6 (vown_sl k2 k3 (fun k hk => by have := k4 k hk; omega) (by omega)) ⟨gz, _, rfl, HGS6.out⟩ HMEM.out)
        rw [← HM.out] at HH
        have HBX := Lib.hid hbx
        have HS6 := Lib.hid hS6
        replace HK1 := Lib.hid k1
        replace HK2 := Lib.hid k2
        replace HK3 := Lib.hid k3
        replace HK4 := Lib.hid k4
        have HK6 := Lib.hid k6
        have lib6 := lt_of_blk' k1
        clear hb6 hS6 hbx hb16 k1 k2 k3 k4 k6
        rcases hh : hasT (addL L p (l.take j)) (.mk kx ix tx sx lx) with _ | _
        · have HNEXT : Hid (addL L p (l.take (j + 1)) = addL L p (l.take j) ++ [.mk kx ix tx sx lx]) := Lib.hid (by rw [HADD.out, HX.out, hp, hh]; rfl)
          rw [hh] at HH
          generalize hfq : (addL L p (l.take j)).length = fl at HH HK1 HK2 HK5 HK6 hfl2 y0
          have HFQ := Lib.hid hfq
          clear hp hh hfq HC HMEM HADD
          go_wp2_with fail
          refine HH.out.mono ?_
          rintro e7 w7 ⟨rfl, hb7⟩
          have HS7 := Lib.hid (HS6.out.later hb7)
          have hbx7 := (hb7.block _ (lt_of_blk' HBX.out)).trans HBX.out
          have k17 := (hb7.block _ lib6).trans HK1.out
          have k27 := own_kept HK2.out (fun g hg => hb7.block g (HK2.out.lt g hg).2)
          have HK37 := Lib.hid (HK3.out.keep (fun k hk => hb7.block k (by have := HK4.out k hk; omega)) (fun _ h => h))
          have hs67 := hb7.size
          have HSF7 := Lib.hid (HSF6.out.keep (w' := w7) (G := fun k => k < B0) (fun b hb => hb7.block b (by omega)) (fun _ h => h))
          have lib7 := lt_of_blk' k17
          have HK47 := Lib.hid HK4.out
          have x0 := cell_of_row w7 _ 0 _ _ (0, 0) hbx7
          have x1 := cell_of_row w7 _ 1 _ _ (0, 0) hbx7
          have x2 := cell_of_row w7 _ 2 _ _ (0, 0) hbx7
          have x3 := cell_of_row w7 _ 3 _ _ (0, 0) hbx7
          have x4 := cell_of_row w7 _ 4 _ _ (0, 0) hbx7
          have y0 := cell_of_row w7 ib 0 _ _ (0, 0) k17
          have HK17 := Lib.hid k17
          have HK27 := Lib.hid k27
          clear hb7 hbx7 k17 k27
          have hsb7 := HS7.out.size
          have p9 : (fl : Int) < (fl : Int) + 1 := by omega
          have hwr7 : wr.heap.size < w7.heap.size := by have := lt_of_blk' HBX.out; omega
          have HOL := Lib.hid (fun g (hg : (Value.slice A6 fl c6).ownBlock = some g) => HK27.out.lt g hg)
          go_wp2_with fail
          go_region_law
            ((refine step_append_lies _ (by rfl) _ _ _ (by rfl) base 53 i0 _ 5 64 Tryd.underlying51 hi hz0 hz1 hz2 rfl (by omega) (.slice A6 fl c6) fl xs (by rfl) (HK27.out.alloc _) ⟨w7.heap.size, 0, none⟩ 1 1 [.int .i64 0, .int .i64 0, .int .i64 0, .string ⟨#[]⟩, .slice none 0 0] (by rfl) (by rfl) (World.news_of_block (cs := #[.int .i64 0, .int .i64 0, .int .i64 0, .string ⟨#[]⟩, .slice none 0 0]) (t := 53) (fr := (0, 0)) (heap_alloc_new w7 _)) (by simp [Value.oneCell']) (by omega) (by unfold maxLen; omega) (by omega) (Nat.le_trans hsb7 (by simp)) (w7.heap.size + 1) (by simp) ?_; intro gg cap w8 ho8 hg8 hat8 hlt8; have hgg8 := (ho8.lt gg rfl).1; have z0 := ho8.cellAt (fl * 5) (by omega); have z1 := ho8.cellAt (fl * 5 + 1) (by omega); have z2 := ho8.cellAt (fl * 5 + 2) (by omega); have z3 := ho8.cellAt (fl * 5 + 3) (by omega); have z4 := ho8.cellAt (fl * 5 + 4) (by omega); have f0 := ho8.frozenAt (fl * 5); have f1 := ho8.frozenAt (fl * 5 + 1); have f2 := ho8.frozenAt (fl * 5 + 2); have f3 := ho8.frozenAt (fl * 5 + 3); have f4 := ho8.frozenAt (fl * 5 + 4); rw [List.getElem?_append_right (by rw [HK27.out.1]; omega)] at z0 z1 z2 z3 z4; rw [HK27.out.1] at z0 z1 z2 z3 z4; simp only [Nat.sub_self, Nat.add_sub_cancel_left] at z0 z1 z2 z3 z4; have hne8 : gg ≠ ib := (by omega); have hne9 : ib ≠ gg := (by omega); have k18 := ((hg8.block ib (by simp; omega) (fun e => by have := (HOL.out ib e.symm).1; omega)).trans (Below.heap_alloc w7 _ ib lib7)).trans HK17.out; have y8 := cell_of_row w8 ib 0 _ _ (0, 0) k18; have fy8 := frozen_of_row w8 ib 0 _ _ k18))
          all_goals (
            have HX : Hid (ItemSt w0 ib base B0 51 [] [] (addL L p (l.take (j + 1))) ((((((w8.setCell ⟨gg, fl * 5, none⟩ (.int .i64 kx)).setCell ⟨gg, fl * 5 + 1, none⟩ (.int .i64 ix)).setCell ⟨gg, fl * 5 + 2, none⟩ (.int .i64 tx)).setCell ⟨gg, fl * 5 + 3, none⟩ (.string sx)).setCell ⟨gg, fl * 5 + 4, none⟩ (.slice Ax m cx)).setCell ⟨ib, 0, none⟩ (.slice (some ⟨gg, 0, none⟩) (fl + 1) cap))) := Lib.hid (by
              have hfq := HFQ.out
              have hm := HM.out
              subst hfq hm
              rw [HNEXT.out]
              exact HS7.out.push hib hB0 (P := fun k => k < B0) HK17.out HK27.out HK37.out HK47.out HK5.out gz HSF7.out (fun k hk => hk) (zs := [.int .i64 0, .int .i64 0, .int .i64 0, .string ⟨#[]⟩, .slice none 0 0]) rfl ho8 ⟨hg8.os, hg8.tape, hg8.output, hg8.size, hg8.block⟩ hat8)
            have HX2 : Hid (ItemSt w0 ib base B0 51 [] [] (addL L p (l.take (j + 1))) ((((((w8.setCell ⟨ib, 0, none⟩ (.slice (some ⟨gg, 0, none⟩) (fl + 1) cap)).setCell ⟨gg, fl * 5, none⟩ (.int .i64 kx)).setCell ⟨gg, fl * 5 + 1, none⟩ (.int .i64 ix)).setCell ⟨gg, fl * 5 + 2, none⟩ (.int .i64 tx)).setCell ⟨gg, fl * 5 + 3, none⟩ (.string sx)).setCell ⟨gg, fl * 5 + 4, none⟩ (.slice Ax m cx))) := Lib.hid (by
              have := HX.out
              rw [setCell_swap _ hne8, setCell_swap _ hne8, setCell_swap _ hne8, setCell_swap _ hne8, setCell_swap _ hne8] at this
              exact this)
            clear ho8 hg8 hat8 z0 z1 z2 z3 z4 f0 f1 f2 f3 f4 k18 y8 fy8
            go_wp2_with fail
            go_roundw
            case rel =>
              refine ⟨j + 1, by go_num, hj, ?_⟩
              first
                | with_reducible exact HX
                | with_reducible exact HX2
            case measure => simp [intOf]; omega)
        · have HNEXT : Hid (addL L p (l.take (j + 1)) = addL L p (l.take j)) := Lib.hid (by rw [HADD.out, HX.out, hp, hh]; rfl)
          rw [hh] at HH
          generalize (addL L p (l.take j)).length = fl at HH HK1 HK2 HK5 HK6 hfl2 y0
          clear hp hh HC HMEM HADD
          go_wp2_with fail
          refine HH.out.mono ?_
          rintro e7 w7 ⟨rfl, hb7⟩
          have HS7 : Hid (ItemSt w0 ib base B0 51 [] [] (addL L p (l.take (j + 1))) w7) := Lib.hid (by rw [HNEXT.out]; exact HS6.out.later hb7)
          clear hb7
          go_wp2_with fail
          go_roundw
          case rel => exact ⟨j + 1, by go_num, hj, HS7⟩
          case measure => simp [intOf]; omega
    · obtain rfl : j = n := by omega
      have p2 : ¬ (j : Int) < j := by omega
      have HF : Hid (ItemSt w0 ib base B0 51 [] [] (addL L p l) wr) := Lib.hid (by have := HR.out; rwa [HN.out, List.take_length] at this)
      clear HR
      go_wp2_with fail
      go_end0
      exact ⟨rfl, HF.out⟩
end Go.Proofs.YtfpiannnggkdiaaDoor
