/- Where a property goes in a list in order (pure). slices.SortFunc at properties, by name. The reference's with: pieces. slices.Insert at properties: copy of a row of several cells an element; a row of one's own with cells put into it. slices.Insert of one property: at the end; in the middle, with room and without. slices.Insert of one property in the middle: there is room (in place). slices.Insert of one property in the middle: there is no room (a new row). slices.Insert of one property into any list of one's own. The reference's with. Properties: the reference's GetOf. What Put and Drop give (pure); the reference's PutOf and DropOf. The reference's DropOf. The program's Drop. The program's Put. The law PropChanges: true of every list, name and value within the bounds. -/
import Derived.Test.YtfpiannnggkdiaaDoorPcX
import Derived.Test.YtfpiannnggkdiaaDoorPaX
import Derived.Test.YtfpiannnggkdiaaDoorShelfS
import Derived.Test.YtfpiannnggkdiaaDoorShelf
import Derived.Lib.SliceRun
import Derived.Lib.AppendZerosOnto
import Derived.Laws.NewBlocks
import Derived.Shelf.Spec.SlicesInsert
import Derived.Deep.AppendLies
import Derived.Lib.Overlaps
import Derived.Shelf.RegionOpenPlain
import Derived.Shelf.Spec.SlicesInsertGrow
import Derived.Test.YtfpiannnggkdiaaDoorWoX
namespace Go.Proofs.YtfpiannnggkdiaaDoor
open Go.RowKit Go.Shelf

def ltP (a b : PV) : Prop := a.nm.toList < b.nm.toList
def Asc (l : List PV) : Prop := l.Pairwise ltP
theorem Asc.wo {l : List PV} (h : Asc l) (q : ByteArray) : Asc (woL l q) := List.Pairwise.filter _ h
theorem wo_ne {l : List PV} {q : ByteArray} {p : PV} (h : p ∈ woL l q) : p.nm.toList ≠ q.toList := by
  have h1 := (List.mem_filter.1 h).2
  intro e
  simp [e] at h1
def insL (m : List PV) (r : Nat) (x : PV) : List PV := m.take r ++ x :: m.drop r
theorem asc_ins {m : List PV} {r : Nat} {x : PV} (h : Asc m) (h1 : ∀ t (ht : t < m.length), t < r → ltP m[t] x) (h2 : ∀ t (ht : t < m.length), r ≤ t → ltP x m[t]) : Asc (insL m r x) := by
  have hg := List.pairwise_iff_getElem.1 h
  unfold Asc insL
  rw [List.pairwise_append, List.pairwise_cons]
  refine ⟨List.Pairwise.sublist (List.take_sublist _ _) h, ⟨fun y hy => ?_, List.Pairwise.sublist (List.drop_sublist _ _) h⟩, fun a ha b hb => ?_⟩
  · obtain ⟨j, hj, rfl⟩ := List.mem_iff_getElem.1 hy
    rw [List.getElem_drop]
    exact h2 _ _ (Nat.le_add_right _ _)
  · obtain ⟨i, hi, rfl⟩ := List.mem_iff_getElem.1 ha
    rw [List.length_take] at hi
    rw [List.getElem_take]
    rcases List.mem_cons.1 hb with rfl | hb
    · exact h1 _ _ (by omega)
    · obtain ⟨j, hj, rfl⟩ := List.mem_iff_getElem.1 hb
      rw [List.getElem_drop]
      exact hg _ _ _ _ (by omega)
theorem asc_eq {l : List PV} (h : Asc l) {a b : PV} (ha : a ∈ l) (hb : b ∈ l) (h1 : ¬ ltP a b) (h2 : ¬ ltP b a) : a = b := by
  obtain ⟨i, hi, rfl⟩ := List.mem_iff_getElem.1 ha
  obtain ⟨j, hj, rfl⟩ := List.mem_iff_getElem.1 hb
  have hg := List.pairwise_iff_getElem.1 h
  rcases Nat.lt_trichotomy i j with e | e | e
  · exact absurd (hg i j hi hj e) h1
  · subst e; rfl
  · exact absurd (hg j i hj hi e) h2
theorem ins_perm (m : List PV) (r : Nat) (x : PV) : (m ++ [x]).Perm (insL m r x) := by
  unfold insL
  refine (List.perm_append_comm.trans ?_).trans List.perm_middle.symm
  rw [List.take_append_drop]
  exact List.Perm.refl _
theorem insL_len' (m : List PV) (r : Nat) (x : PV) : (insL m r x).length = m.length + 1 := by
  have := (ins_perm m r x).length_eq
  rw [← this]; simp
/-- A sorted list of the same properties is the list with x put in. -/
theorem sorted_ins {m e : List PV} {r : Nat} {x : PV} (hi : Asc (insL m r x)) (hp : e.Perm (m ++ [x])) (hs : e.Pairwise fun a b => ¬ ltP b a) : e = insL m r x := by
  have hp2 := hp.trans (ins_perm m r x)
  refine List.Perm.eq_of_pairwise (le := fun a b => ¬ ltP b a) (fun a b ha hb h1 h2 => asc_eq hi (hp2.subset ha) hb h2 h1) hs ?_ hp2
  exact List.Pairwise.imp (fun hab h => List.lt_asymm hab h) hi
/-- cmp of two items: their names. -/
def cfI (x y : PItem) : Int := Lib.compareBytes x.p.nm.data.toList y.p.nm.data.toList
theorem cmpBytes_lt : ∀ a b : List UInt8, Lib.compareBytes a b = if a < b then -1 else if b < a then 1 else 0
  | [], [] => by simp [Lib.compareBytes, List.lt_irrefl]
  | [], _ :: _ => by simp [Lib.compareBytes]
  | _ :: _, [] => by simp [Lib.compareBytes]
  | x :: a, y :: b => by
    unfold Lib.compareBytes
    rw [cmpBytes_lt a b]
    simp only [List.cons_lt_cons_iff]
    by_cases h : x < y
    · simp [h]
    · by_cases g : y < x
      · have : x ≠ y := fun e => by subst e; exact h g
        simp [h, g, this]
      · have : x = y := UInt8.le_antisymm (UInt8.not_lt.1 g) (UInt8.not_lt.1 h)
        subst this
        simp [UInt8.lt_irrefl]
theorem ltI_iff (x y : PItem) : ltOf cfI x y = true ↔ ltP x.p y.p := by
  unfold ltOf cfI ltP
  rw [decide_eq_true_iff, cmpBytes_lt, Lib.toList_data, Lib.toList_data]
  by_cases h : x.p.nm.data.toList < y.p.nm.data.toList
  · simp [h]
  · by_cases g : y.p.nm.data.toList < x.p.nm.data.toList <;> simp [h, g]
theorem ltI_not (x y : PItem) : ltOf cfI x y = false ↔ ¬ ltP x.p y.p := by
  rw [← ltI_iff, Bool.not_eq_true]
theorem swoI : Go.Sort.SWO (ltOf cfI) where
  irrefl x := (ltI_not x x).2 (List.lt_irrefl _)
  trans x y z h1 h2 := (ltI_iff x z).2 (List.lt_trans ((ltI_iff x y).1 h1) ((ltI_iff y z).1 h2))
  ntrans x y z h1 h2 := (ltI_not x z).2 (fun h => by
    have h1 := (ltI_not x y).1 h1
    have h2 := (ltI_not y z).1 h2
    unfold ltP at h h1 h2
    rw [List.not_lt] at h1 h2
    exact absurd h (List.not_lt.2 (List.le_trans h2 h1)))
/-- What the sort leaves, as a list of properties. -/
theorem sorted_items {d : List PItem} {d' : Array PItem} {m : List PV} {x : PV} {r : Nat} (hd : d.map (·.p) = m ++ [x]) (hi : Asc (insL m r x)) (hp : Go.Sort.PermIn 0 d.length d.toArray d') (hs : Go.Sort.SortedIn (ltOf cfI) 0 d.length d') :
    d'.size = d.length ∧ d'.toList.map (·.p) = insL m r x ∧ d'.toList.Perm d := by
  obtain ⟨h1, _, h3⟩ := hp
  have h1 : d'.size = d.length := by simpa using h1
  have e1 : d'.extract 0 d.length = d' := by rw [← h1]; exact Array.extract_size
  have e2 : d.toArray.extract 0 d.length = d.toArray := by
    rw [show d.length = d.toArray.size by simp]; exact Array.extract_size
  rw [e1, e2] at h3
  have hp3 : d'.toList.Perm d := by simpa using h3
  refine ⟨h1, ?_, hp3⟩
  refine sorted_ins hi (by rw [← hd]; exact hp3.map _) ?_
  rw [List.pairwise_map, List.pairwise_iff_getElem]
  intro i j hi hj hij
  have := hs i j (Nat.zero_le _) hij (by simpa [h1] using hj)
  rw [ltI_not] at this
  have hi' : i < d'.size := by simpa using hi
  have hj' : j < d'.size := by simpa using hj
  rw [getElem!_pos d' i hi', getElem!_pos d' j hj'] at this
  simpa using this
end Go.Proofs.YtfpiannnggkdiaaDoor
namespace Go.Proofs.YtfpiannnggkdiaaDoor
open Go.RowKit Go.Shelf

theorem aggPr (w : World) : (isAgg 59).run Tryd.prog w = .ok true w := by kernel_rfl
theorem szPr (w : World) : (Go.sizeOf 59).run Tryd.prog w = .ok 6 w := by kernel_rfl
end Go.Proofs.YtfpiannnggkdiaaDoor
namespace Go.Proofs.YtfpiannnggkdiaaDoor
open Go.RowKit Go.Shelf

/-- A list of one's own, its row not among the values' blocks, behind a start. -/
structure OwnAt (w : World) (base : Nat) (L : List PV) (v : Value) (wx : World) : Prop where
  bel : Below base w wx
  le : base ≤ wx.heap.size
  rep : ∃ (F : Nat → Prop) (xs : List Value), wx.ownsRow base 59 6 v L.length xs ∧ PRep wx F L xs ∧ (∀ k, F k → k < wx.heap.size) ∧ ∀ g, v.ownBlock = some g → ¬ F g
theorem OwnAt.pr {w W wx : World} {base : Nat} {L : List PV} {v : Value} (h : OwnAt W base L v wx) (hb : Below w.heap.size w wx) (hw : w.heap.size ≤ base) : PrOwn w w.heap.size L v wx := by
  obtain ⟨F, xs, h1, h2, h3, h4⟩ := h.rep
  exact ⟨hb, F, xs, own_base h1 (fun g hg => by have := (h1.lt g hg).1; omega), h2, fun k hk => ⟨h3 k hk, by omega⟩, h4⟩
theorem PrOwn.at {w wx : World} {L : List PV} {v : Value} {B0 : Nat} (h : PrOwn w B0 L v wx) : OwnAt w w.heap.size L v wx := by
  obtain ⟨F, xs, h1, h2, h3, h4⟩ := h.rep
  exact ⟨h.bel, h.bel.size, F, xs, h1, h2, fun k hk => (h3 k hk).1, h4⟩
/-- .. appended to. -/
theorem OwnAt.push {W w w4 : World} {base : Nat} {L : List PV} {v : Value} (h : OwnAt W base L v w) {o : Obj} {F : Nat → Prop} {xs : List Value} {nm sx : ByteArray} {kx ix tx : Int} {lx : List V} {A' : Option Addr} {c' gg cap : Nat}
    (h1 : w.ownsRow base 59 6 v L.length xs) (h2 : PRep w F L xs) (h3 : ∀ k, F k → k < w.heap.size) (h4 : ∀ g, v.ownBlock = some g → ¬ F g)
    (hs : SlF w (fun b => b < base) lx (.slice A' lx.length c')) (hz : nm.size ≤ 1048576 ∧ sx.size ≤ 1048576)
    (ho4 : w4.ownsRow base 59 6 (.slice (some ⟨gg, 0, none⟩) (L.length + 1) cap) (L.length + 1) (xs ++ [.string nm, .int .i64 kx, .int .i64 ix, .int .i64 tx, .string sx, .slice A' lx.length c']))
    (hg : (w.alloc o).grownBy w4 v.ownBlock) (hat : v.ownBlock = some gg ∨ gg = w.heap.size + 1) : OwnAt W base (L ++ [⟨nm, .mk kx ix tx sx lx⟩]) (.slice (some ⟨gg, 0, none⟩) (L.length + 1) cap) w4 := by
  have hle := h.le
  have hbel := h.bel
  have hsz4 := hg.size
  simp only [World.size_alloc] at hsz4
  have hlt : ∀ g, v.ownBlock = some g → base ≤ g ∧ g < w.heap.size := fun g hg => h1.lt g hg
  have hk4 : ∀ b, b < w.heap.size → v.ownBlock ≠ some b → w4.heap[b]? = w.heap[b]? := fun b hb hne => by
    rw [hg.block b (by simp; omega) (fun e => hne e.symm)]
    exact Below.heap_alloc _ _ _ hb
  refine ⟨(hbel.alloc hle o).grown hg (by simp; omega) (fun k hk => (hlt k hk).1), by omega, fun b => F b ∨ b < base, _, ?_, PRep.snoc hz.1 hz.2 (hs.keep (fun b hb => hk4 b (by omega) (fun e => ?_)) (fun b hb => .inr hb)) (h2.keep (fun b hb => hk4 b (h3 b hb) (fun e => h4 b e hb)) (fun b hb => .inl hb)), fun k hk => ?_, fun g hg2 => ?_⟩
  · rw [List.length_append]
    exact ho4
  · have := hlt b e
    omega
  · rcases hk with hk | hk
    · have := h3 k hk; omega
    · omega
  · simp only [Value.ownBlock, Option.some.injEq] at hg2
    subst hg2
    rcases hat with e | e
    · rintro (h5 | h5)
      · exact h4 _ e h5
      · have := hlt _ e; omega
    · rintro (h5 | h5)
      · have := h3 _ h5; omega
      · omega
end Go.Proofs.YtfpiannnggkdiaaDoor
namespace Go.Proofs.YtfpiannnggkdiaaDoor
open Go.RowKit Go.Shelf

theorem run_copy_row {P : Program} (w : World) (dT sT ty elem : TypeId) (b o dLen dCap : Nat) (a : Addr) (sLen sCap n size : Nat) (cs : List Value)
    (hu : P.underlying dT = some (.slice elem)) (hs : (P.info? elem).map (·.size) = some size) (hn : n = Nat.min sLen dLen) (hl : cs.length = n * size)
    (hsrc : ∀ j v, cs[j]? = some v → w.cell? (a.add j) = some v) (hc : ∀ j, j < cs.length → (w.cell? ⟨b, o + j, none⟩).isSome = true) (hf : ∀ j, j < cs.length → w.frozen? ⟨b, o + j, none⟩ = false) (h1 : ∀ v ∈ cs, v.oneCell' = true) :
    (Builtin.copy_ #[dT, sT] ty #[.slice (some ⟨b, o, none⟩) dLen dCap, .slice (some a) sLen sCap]).run P w = .ok (goInt n) (w.setCells b o cs) := by
  have hld := run_loadCells_list (P := P) w a cs hsrc
  have hst := run_storeCells_cells (P := P) b o cs 0 w (by simpa using hc) (by simpa using hf) h1
  rw [hl] at hld
  cases hq : P.info? elem with
  | none => simp [hq] at hs
  | some i =>
    have hi : i.size = size := by simpa [hq] using hs
    simp [Builtin.copy_, run_underlying hu, Builtin.lenOf, Builtin.firstCells, sizeOf, typeInfo, hq, hi, ← hn, hld, hst]
theorem own_putCells {b c base n : Nat} {e : TypeId} {size : Nat} : ∀ (vs : List Value) (o : Nat) (w : World) (xs : List Value), w.ownsRow base e size (.slice (some ⟨b, 0, none⟩) n c) n xs → o + vs.length ≤ xs.length →
    (w.setCells b o vs).ownsRow base e size (.slice (some ⟨b, 0, none⟩) n c) n (xs.take o ++ vs ++ xs.drop (o + vs.length)) ∧ w.grownBy (w.setCells b o vs) (some b)
  | [], o, w, xs, h, _ => ⟨by rw [List.append_nil, List.length_nil, Nat.add_zero, List.take_append_drop]; exact h, ⟨rfl, rfl, rfl, Nat.le_refl _, fun _ _ _ => rfl⟩⟩
  | v :: vs, o, w, xs, h, hl => by
    have s := h.stored o v
    simp only [List.length_cons] at hl
    obtain ⟨h1, h3⟩ := own_putCells vs (o + 1) _ _ s.1 (by rw [List.length_set]; omega)
    refine ⟨?_, ⟨h3.os.trans s.2.os, h3.tape.trans s.2.tape, h3.output.trans s.2.output, Nat.le_trans s.2.size h3.size, fun k hk hne => (h3.block k (Nat.lt_of_lt_of_le hk s.2.size) hne).trans (s.2.block k hk hne)⟩⟩
    have e1 : (xs.set o v).take (o + 1) = xs.take o ++ [v] := by
      rw [List.take_succ_eq_append_getElem (by rw [List.length_set]; omega), List.take_set_of_le (by omega)]
      simp
    have e2 : (xs.set o v).drop (o + 1 + vs.length) = xs.drop (o + (v :: vs).length) := by
      rw [List.drop_set_of_lt (by omega), List.length_cons]
      congr 1
      omega
    rw [e1, e2] at h1
    rw [show xs.take o ++ (v :: vs) = xs.take o ++ [v] ++ vs by simp]
    exact h1
theorem flat_take : ∀ (d : List PItem) (i : Nat), (d.take i).flatMap encI = (d.flatMap encI).take (i * 6)
  | [], i => by simp
  | x :: d, 0 => by simp
  | x :: d, i + 1 => by
    rw [List.take_succ_cons, List.flatMap_cons, List.flatMap_cons, flat_take d i, List.take_append, encI_len, List.take_of_length_le (l := encI x) (by rw [encI_len]; omega)]
    congr 2
    omega
theorem flat_drop : ∀ (d : List PItem) (i : Nat), (d.drop i).flatMap encI = (d.flatMap encI).drop (i * 6)
  | [], i => by simp
  | x :: d, 0 => by simp
  | x :: d, i + 1 => by
    rw [List.drop_succ_cons, List.flatMap_cons, flat_drop d i, List.drop_append, encI_len, List.drop_of_length_le (l := encI x) (by rw [encI_len]; omega), List.nil_append]
    congr 1
    omega
/-- What was put into a row of one's own is a list of one's own again. -/
theorem OwnAt.put {W w w' : World} {base : Nat} {m : List PV} {A : Option Addr} {c i gg cap : Nat} {F F2 : Nat → Prop} {xs : List Value} {x : PV} {A' : Option Addr} {c' : Nat}
    (h : OwnAt W base m (.slice A m.length c) w) (h1 : w.ownsRow base 59 6 (.slice A m.length c) m.length xs) (h2 : PRep w F m xs) (h3 : ∀ k, F k → k < w.heap.size) (h4 : ∀ g, (Value.slice A m.length c).ownBlock = some g → ¬ F g)
    (hi : i ≤ m.length) (hx : GoodI w F2 ⟨x, A', c'⟩) (hF2 : ∀ k, F2 k → k < w.heap.size ∧ (Value.slice A m.length c).ownBlock ≠ some k)
    (ho : w'.ownsRow base 59 6 (.slice (some ⟨gg, 0, none⟩) (m.length + 1) cap) (m.length + 1) (xs.take (i * 6) ++ encI ⟨x, A', c'⟩ ++ xs.drop (i * 6)))
    (hg : w.grownBy w' (Value.slice A m.length c).ownBlock) (hat : (Value.slice A m.length c).ownBlock = some gg ∨ w.heap.size ≤ gg) : OwnAt W base (insL m i x) (.slice (some ⟨gg, 0, none⟩) (m.length + 1) cap) w' := by
  have hle := h.le
  have hbel := h.bel
  obtain ⟨d, hd, hxs, hgood⟩ := h2.items
  subst hxs
  have hlt : ∀ g, (Value.slice A m.length c).ownBlock = some g → base ≤ g ∧ g < w.heap.size := fun g hg => h1.lt g hg
  refine ⟨⟨hg.os.trans hbel.os, hg.tape.trans hbel.tape, hg.output.trans hbel.output, Nat.le_trans hbel.size hg.size, fun k hk => (hg.block k (by omega) (fun e => by have := hlt k e.symm; omega)).trans (hbel.block k hk)⟩, Nat.le_trans hle hg.size, fun k => F k ∨ F2 k, _, by rw [insL_len']; exact ho, ?_, fun k hk => ?_, fun g hg2 => ?_⟩
  · have e1 : (d.flatMap encI).take (i * 6) ++ encI ⟨x, A', c'⟩ ++ (d.flatMap encI).drop (i * 6) = (d.take i ++ (⟨x, A', c'⟩ : PItem) :: d.drop i).flatMap encI := by
      rw [List.flatMap_append, List.flatMap_cons, flat_take, flat_drop, List.append_assoc]
    have e2 : insL m i x = (d.take i ++ (⟨x, A', c'⟩ : PItem) :: d.drop i).map (·.p) := by
      rw [List.map_append, List.map_cons, List.map_take, List.map_drop, hd]; rfl
    rw [e1, e2]
    refine rep_of_items _ (fun y hy => ?_)
    have hk : ∀ y, GoodI w F y → GoodI w' (fun k => F k ∨ F2 k) y := fun y hy => by
      obtain ⟨⟨nm, ⟨k, i, t, s, l⟩⟩, A, c⟩ := y
      exact ⟨hy.1, hy.2.1, hy.2.2.keep (fun b hb => hg.block b (h3 b hb) (fun e => h4 b e.symm hb)) (fun _ h => .inl h)⟩
    rcases List.mem_append.1 hy with hy | hy
    · exact hk y (hgood y (List.mem_of_mem_take hy))
    · rcases List.mem_cons.1 hy with rfl | hy
      · obtain ⟨nm, ⟨k, i, t, s, l⟩⟩ := x
        exact ⟨hx.1, hx.2.1, hx.2.2.keep (fun b hb => hg.block b (hF2 b hb).1 (fun e => (hF2 b hb).2 e.symm)) (fun _ h => .inr h)⟩
      · exact hk y (hgood y (List.mem_of_mem_drop hy))
  · have hsz := hg.size
    rcases hk with hk | hk
    · have := h3 k hk; omega
    · have := (hF2 k hk).1; omega
  · simp only [Value.ownBlock, Option.some.injEq] at hg2
    subst hg2
    rcases hat with e | e
    · rintro (h5 | h5)
      · exact h4 _ e h5
      · exact (hF2 _ h5).2 e
    · rintro (h5 | h5)
      · have := h3 _ h5; omega
      · have := (hF2 _ h5).1; omega
end Go.Proofs.YtfpiannnggkdiaaDoor
namespace Go.Proofs.YtfpiannnggkdiaaDoor
open Go.RowKit Go.Shelf Go.Lib

def Inserted (w : World) (base : Nat) (v : Value) (n : Nat) (ys : List Value) (e : Ending) (w' : World) : Prop :=
  ∃ gg cap, e = .returned (.slice (some ⟨gg, 0, none⟩) (n + 1) cap) ∧ w'.ownsRow base 59 6 (.slice (some ⟨gg, 0, none⟩) (n + 1) cap) (n + 1) ys ∧ w.grownBy w' v.ownBlock ∧ (v.ownBlock = some gg ∨ w.heap.size ≤ gg)

end Go.Proofs.YtfpiannnggkdiaaDoor
namespace Go.Proofs.YtfpiannnggkdiaaDoor
open Go.RowKit Go.Shelf Go.Lib

/-- A row of one's own with one element more, as it lies. -/
theorem own_more {w : World} {base g n c : Nat} {e : TypeId} {xs : List Value} (h : w.ownsRow base e 6 (.slice (some ⟨g, 0, none⟩) n c) n xs) (hc : n + 1 ≤ c) :
    ∃ ys, w.ownsRow base e 6 (.slice (some ⟨g, 0, none⟩) (n + 1) c) (n + 1) ys ∧ ys.take (n * 6) = xs := by
  rcases h.2 with ⟨h', _⟩ | ⟨g', cap', cur, h', hb, hg, hnc, hcm, hcs, htake⟩
  · simp at h'
  · simp only [Value.slice.injEq, Option.some.injEq, Addr.mk.injEq, and_true, true_and] at h'
    obtain ⟨rfl, rfl⟩ := h'
    refine ⟨cur.toList.take ((n + 1) * 6), ⟨by rw [List.length_take]; simp; omega, .inr ⟨g, c, cur, rfl, hb, hg, hc, hcm, hcs, rfl⟩⟩, ?_⟩
    rw [List.take_take, Nat.min_eq_left (by omega)]
    exact htake

end Go.Proofs.YtfpiannnggkdiaaDoor
namespace Go.Proofs.YtfpiannnggkdiaaDoor
open Go.RowKit Go.Shelf Go.Lib

end Go.Proofs.YtfpiannnggkdiaaDoor
namespace Go.Proofs.YtfpiannnggkdiaaDoor
open Go.RowKit Go.Shelf

theorem inserted_own {W w : World} {base : Nat} {m : List PV} {A : Option Addr} {c r : Nat} {F F2 : Nat → Prop} {xs : List Value} {x : PV} {A' : Option Addr} {c' : Nat} {e : Ending} {w' : World}
    (h : OwnAt W base m (.slice A m.length c) w) (h1 : w.ownsRow base 59 6 (.slice A m.length c) m.length xs) (h2 : PRep w F m xs) (h3 : ∀ k, F k → k < w.heap.size) (h4 : ∀ g, (Value.slice A m.length c).ownBlock = some g → ¬ F g)
    (hi : r ≤ m.length) (hx : GoodI w F2 ⟨x, A', c'⟩) (hF2 : ∀ k, F2 k → k < w.heap.size ∧ (Value.slice A m.length c).ownBlock ≠ some k)
    (hI : Inserted w base (.slice A m.length c) m.length (xs.take (r * 6) ++ encI ⟨x, A', c'⟩ ++ xs.drop (r * 6)) e w') : ∃ v', e = .returned v' ∧ OwnAt W base (insL m r x) v' w' := by
  obtain ⟨gg, cap, he, ho, hg, hat⟩ := hI
  exact ⟨_, he, h.put h1 h2 h3 h4 hi hx hF2 ho hg hat⟩
end Go.Proofs.YtfpiannnggkdiaaDoor
namespace Go.Proofs.YtfpiannnggkdiaaDoor
open Go.RowKit Go.Shelf

end Go.Proofs.YtfpiannnggkdiaaDoor
namespace Go.Proofs.YtfpiannnggkdiaaDoor
open Go.RowKit Go.Shelf

def zeroBox : Obj := .cells #[.int .i64 0, .int .i64 0, .int .i64 0, .string ⟨#[]⟩, .slice none 0 0] 53
structure GtRow (l : List PV) (q : ByteArray) (w : World) (j : Nat) (wx : World) : Prop where
  bel : Below w.heap.size w wx
  blk : wx.heap[w.heap.size]? = some zeroBox
  no : ∀ k (hk : k < l.length), k < j → (l[k].nm.toList == q.toList) = false

end Go.Proofs.YtfpiannnggkdiaaDoor
namespace Go.Proofs.YtfpiannnggkdiaaDoor
open Go.RowKit Go.Shelf

def posL : List PV → ByteArray → Nat
  | [], _ => 0
  | p :: m, q => if p.nm.toList < q.toList then posL m q + 1 else 0
theorem posL_le : ∀ (m : List PV) (q : ByteArray), posL m q ≤ m.length
  | [], _ => Nat.le_refl _
  | p :: m, q => by
    unfold posL
    have := posL_le m q
    split <;> simp <;> omega
theorem posL_lt : ∀ (m : List PV) (q : ByteArray) (t : Nat) (ht : t < m.length), t < posL m q → m[t].nm.toList < q.toList
  | [], _, _, ht, _ => absurd ht (by simp)
  | p :: m, q, t, ht, h => by
    unfold posL at h
    split at h
    · rename_i hp
      cases t with
      | zero => exact hp
      | succ t => exact posL_lt m q t (by simpa using ht) (by omega)
    · omega
theorem posL_at : ∀ (m : List PV) (q : ByteArray) (h : posL m q < m.length), ¬ m[posL m q].nm.toList < q.toList
  | [], _, h => absurd h (by simp)
  | p :: m, q, h => by
    by_cases hp : p.nm.toList < q.toList
    · have e : posL (p :: m) q = posL m q + 1 := by rw [posL, if_pos hp]
      have h2 : posL m q < m.length := by rw [e] at h; simpa using h
      have := posL_at m q h2
      intro g
      apply this
      have e3 : (p :: m)[posL (p :: m) q] = m[posL m q] := by
        have : ∀ (i : Nat) (hi : i < (p :: m).length), i = posL m q + 1 → (p :: m)[i] = m[posL m q] := by
          intro i hi hi2; subst hi2; rfl
        exact this _ _ e
      rwa [e3] at g
    · have e : posL (p :: m) q = 0 := by rw [posL, if_neg hp]
      intro g
      apply hp
      have e3 : (p :: m)[posL (p :: m) q] = p := by
        have : ∀ (i : Nat) (hi : i < (p :: m).length), i = 0 → (p :: m)[i] = p := by
          intro i hi hi2; subst hi2; rfl
        exact this _ _ e
      rwa [e3] at g
theorem posL_ge {m : List PV} (hm : Asc m) (q : ByteArray) (t : Nat) (ht : t < m.length) (h : posL m q ≤ t) : ¬ m[t].nm.toList < q.toList := by
  have h1 := posL_at m q (by omega)
  rcases Nat.lt_or_ge (posL m q) t with h2 | h2
  · have := List.pairwise_iff_getElem.1 hm (posL m q) t (by omega) ht h2
    exact fun g => h1 (List.lt_trans this g)
  · have e : posL m q = t := by omega
    have : ∀ (i : Nat) (hi : i < m.length), i = posL m q → ¬ m[i].nm.toList < q.toList := by
      intro i hi hi2; subst hi2; exact h1
    exact this t ht e.symm
theorem posL_uniq {m : List PV} (hm : Asc m) {q : ByteArray} {r : Nat} (hr : r ≤ m.length) (h1 : ∀ t (ht : t < m.length), t < r → cmpS m[t].nm q < 0) (h2 : ∀ t (ht : t < m.length), r ≤ t → 0 ≤ cmpS m[t].nm q) : r = posL m q := by
  have hp := posL_le m q
  rcases Nat.lt_trichotomy r (posL m q) with h | h | h
  · have a := posL_lt m q r (by omega) h
    have b := h2 r (by omega) (Nat.le_refl _)
    have := (cmpS_neg _ _).2 a
    omega
  · exact h
  · have a := posL_at m q (by omega)
    have b := h1 (posL m q) (by omega) h
    exact absurd ((cmpS_neg _ _).1 b) a
/-- The list with a value for a name. -/
def putL (l : List PV) (q : ByteArray) (v : V) : List PV := if v.kind = 0 then woL l q else insL (woL l q) (posL (woL l q) q) ⟨q, v⟩
theorem asc_put {l : List PV} (hl : Asc l) (q : ByteArray) (v : V) : Asc (insL (woL l q) (posL (woL l q) q) ⟨q, v⟩) := by
  refine asc_ins (hl.wo q) (fun t ht h => posL_lt _ _ t ht h) (fun t ht h => ?_)
  have h1 := posL_ge (hl.wo q) q t ht h
  have h2 := wo_ne (List.getElem_mem ht)
  rcases tri (woL l q)[t].nm.toList q.toList with g | g | g
  · exact absurd g h1
  · exact absurd g h2
  · exact g
theorem insL_len (m : List PV) (r : Nat) (x : PV) : (insL m r x).length = m.length + 1 := by
  have := (ins_perm m r x).length_eq
  rw [← this]; simp
theorem putL_len (l : List PV) (q : ByteArray) (v : V) : (putL l q v).length ≤ l.length + 1 := by
  have := woL_len l q
  unfold putL
  split
  · omega
  · rw [insL_len]; omega
def putE (l : List PV) (q : ByteArray) (v : V) : Int :=
  if propsE l ≠ 0 then propsE l else if nameOk q = false then 3 else if valueE v ≠ 0 then valueE v else if 20 < (putL l q v).length then 4 else 0
def dropE (l : List PV) (q : ByteArray) : Int :=
  if propsE l ≠ 0 then propsE l else if nameOk q = false then 3 else if getV l q = none then 7 else 0
/-- A list and an error, in a later world. -/
def Gives (w : World) (err : Int) (L : List PV) (e : Ending) (w' : World) : Prop :=
  ∃ v, e = .returned (.tuple #[v, .int .i64 err]) ∧ PrOwn w w.heap.size (if err = 0 then L else []) v w'
theorem gives_bad {w w' : World} {err : Int} {L : List PV} (h : err ≠ 0) (hb : Below w.heap.size w w') : Gives w err L (.returned (.tuple #[.slice none 0 0, .int .i64 err])) w' := by
  refine ⟨_, rfl, ?_⟩
  rw [if_neg h]
  exact ⟨hb, fun _ => False, [], World.ownsRow_nil _ _ _ _, rfl, fun _ h => h.elim, fun _ h => by simp [Value.ownBlock] at h⟩
theorem PrOwn.after {w W wx : World} {L : List PV} {v : Value} (h : PrOwn W W.heap.size L v wx) (hb : Below w.heap.size w W) : PrOwn w w.heap.size L v wx :=
  h.at.pr (hb.trans (h.bel.mono hb.size)) hb.size

end Go.Proofs.YtfpiannnggkdiaaDoor
namespace Go.Proofs.YtfpiannnggkdiaaDoor
open Go.RowKit Go.Shelf

end Go.Proofs.YtfpiannnggkdiaaDoor
namespace Go.Proofs.YtfpiannnggkdiaaDoor
open Go.RowKit Go.Shelf

end Go.Proofs.YtfpiannnggkdiaaDoor
namespace Go.Proofs.YtfpiannnggkdiaaDoor
open Go.RowKit Go.Shelf

theorem OwnAt.later {W w w' : World} {base : Nat} {L : List PV} {v : Value} (h : OwnAt W base L v w) (hb : Below w.heap.size w w') : OwnAt W base L v w' := by
  obtain ⟨F, xs, h1, h2, h3, h4⟩ := h.rep
  exact ⟨h.bel.trans (hb.mono h.le), Nat.le_trans h.le hb.size, F, xs, own_kept h1 (fun g hg => hb.block g (h1.lt g hg).2), h2.keep (fun k hk => hb.block k (h3 k hk)) (fun _ h => h), fun k hk => Nat.lt_of_lt_of_le (h3 k hk) hb.size, h4⟩
theorem OwnAt.psl {W w : World} {base : Nat} {L : List PV} {v : Value} (h : OwnAt W base L v w) (hl : L.length ≤ 1048576) : PSl w w.heap.size L v := by
  obtain ⟨F, xs, hown, hrep, hF, hFo⟩ := h.rep
  rcases hown.2 with ⟨e1, e2⟩ | ⟨g, cap, cur, e1, hb, hg, hnc, hcm, hcs, htake⟩
  · have hL : L = [] := List.eq_nil_of_length_eq_zero e2
    subst hL
    exact ⟨none, 0, e1, by simp, by simp, .inl rfl⟩
  · refine ⟨_, cap, e1, hl, hnc, .inr ⟨g, 0, rfl, ?_⟩⟩
    have hlt := (hown.lt g (by rw [e1]; rfl)).2
    refine rep_prow (fun k hk => hF k hk) g 0 hlt hrep (fun j u hj => ?_)
    rw [e1] at hown
    have hj2 : j < L.length * 6 := by
      have := (List.getElem?_eq_some_iff.1 hj).1
      rw [hown.1] at this
      exact this
    rw [Nat.zero_add, hown.cellAt j hj2]
    exact hj

end Go.Proofs.YtfpiannnggkdiaaDoor
namespace Go.Proofs.YtfpiannnggkdiaaDoor
open Go.RowKit Go.Shelf

/-- What both sides' Get gives: the value, in a later world, or none. -/
def GetTo (o : Option V) (w : World) (e : Ending) (w' : World) : Prop :=
  (match o with
    | some (.mk k i t s l) => s.size ≤ 1048576 ∧ ∃ A c, e = .returned (.tuple #[.agg #[.int .i64 k, .int .i64 i, .int .i64 t, .string s, .slice A l.length c], .bool true]) ∧ SlAt w' w'.heap.size l (.slice A l.length c)
    | none => e = .returned (.tuple #[.agg #[.int .i64 0, .int .i64 0, .int .i64 0, .string ⟨#[]⟩, .slice none 0 0], .bool false])) ∧ Below w.heap.size w w'
theorem getTo_of {l : List PV} {q : ByteArray} {w w' : World} {e : Ending} (h : GotIt l q w e w') : GetTo (getV l q) w e w' := by
  obtain ⟨h, hb⟩ := h
  refine ⟨?_, hb⟩
  rcases h with ⟨j, hj, g, hy, hno, hv, rfl⟩ | ⟨hno, rfl⟩
  · rw [getV_at hj hy hno]
    rcases hlv : l[j].val with ⟨k, i, t, s, lx⟩
    rw [hlv] at hv
    obtain ⟨hz, sl, rfl, A, c, rfl, hr⟩ := hv
    exact ⟨hz, A, c, rfl, A, c, rfl, hr⟩
  · rw [getV_none hno]
theorem getTo_of2 {l : List PV} {q : ByteArray} {w w' : World} {e : Ending}
    (h : ((∃ (j : Nat) (hj : j < l.length) (g : Value), (l[j].nm.toList == q.toList) = true ∧ (∀ k (hk : k < l.length), k < j → (l[k].nm.toList == q.toList) = false) ∧ VAt w w.heap.size l[j].val g ∧ e = .returned (.tuple #[g, .bool true])) ∨
        ((∀ k (hk : k < l.length), (l[k].nm.toList == q.toList) = false) ∧ e = .returned (.tuple #[.agg #[.int .i64 0, .int .i64 0, .int .i64 0, .string ⟨#[]⟩, .slice none 0 0], .bool false]))) ∧ Below w.heap.size w w') : GetTo (getV l q) w e w' := by
  obtain ⟨h, hb⟩ := h
  refine ⟨?_, hb⟩
  rcases h with ⟨j, hj, g, hy, hno, hv, rfl⟩ | ⟨hno, rfl⟩
  · rw [getV_at hj hy hno]
    rcases hlv : l[j].val with ⟨k, i, t, s, lx⟩
    rw [hlv] at hv
    obtain ⟨hz, sl, rfl, A, c, rfl, hr⟩ := hv
    exact ⟨hz, A, c, rfl, (SlAt.below ⟨A, c, rfl, hr⟩ hb (Nat.le_refl _)).up hb.size⟩
  · rw [getV_none hno]
theorem gives_psl {w w' : World} {err : Int} {L : List PV} {e : Ending} (h : Gives w err L e w') (hl : L.length ≤ 1048576) : ∃ A c, e = .returned (.tuple #[.slice A (if err = 0 then L else []).length c, .int .i64 err]) ∧ PSl w' w'.heap.size (if err = 0 then L else []) (.slice A (if err = 0 then L else []).length c) ∧ Below w.heap.size w w' := by
  obtain ⟨v, rfl, hP⟩ := h
  have h1 := hP.psl (by split; exact hl; simp)
  have hb := hP.bel
  obtain ⟨A, c, rfl, hr⟩ := h1
  exact ⟨A, c, rfl, ⟨A, c, rfl, hr⟩, hb⟩

end Go.Proofs.YtfpiannnggkdiaaDoor
