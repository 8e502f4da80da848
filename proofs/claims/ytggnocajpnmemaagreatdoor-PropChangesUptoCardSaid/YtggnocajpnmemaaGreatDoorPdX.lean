/- A row of properties as an array of items (for slices.SortFunc); lists of one's own as lists in memory. Where a property goes in a list in order (pure). slices.SortFunc at properties, by name. The reference's with: pieces. The reference's with. -/
import Derived.Test.YtggnocajpnmemaaGreatDoorWoX
import Derived.Shelf.SlSortCmp.WholeK
import Derived.Test.YtggnocajpnmemaaGreatDoorPaX
import Derived.Test.YtggnocajpnmemaaGreatDoorShelfS
import Derived.Test.YtggnocajpnmemaaGreatDoorShelf
namespace Go.Proofs.YtggnocajpnmemaaGreatDoor
open Go.RowKit Go.Shelf

structure PItem where
  p : PV
  A : Option Addr
  c : Nat
instance : Inhabited PItem := ⟨⟨⟨⟨#[]⟩, .mk 0 0 0 ⟨#[]⟩ []⟩, none, 0⟩⟩
def encI : PItem → List Value
  | ⟨⟨nm, .mk k i t s l⟩, A, c⟩ => [.string nm, .int .i64 k, .int .i64 i, .int .i64 t, .string s, .slice A l.length c]
theorem encI_len (x : PItem) : (encI x).length = 6 := by
  obtain ⟨⟨nm, ⟨k, i, t, s, l⟩⟩, A, c⟩ := x
  rfl
theorem encI_one (x : PItem) : ∀ v ∈ encI x, v.oneCell' = true := by
  obtain ⟨⟨nm, ⟨k, i, t, s, l⟩⟩, A, c⟩ := x
  intro v hv
  simp only [encI, List.mem_cons, List.not_mem_nil, or_false] at hv
  rcases hv with rfl | rfl | rfl | rfl | rfl | rfl <;> rfl
def GoodI (w : World) (F : Nat → Prop) : PItem → Prop
  | ⟨⟨nm, .mk _ _ _ s l⟩, A, c⟩ => nm.size ≤ 1048576 ∧ s.size ≤ 1048576 ∧ SlF w F l (.slice A l.length c)
theorem PRep.items {w : World} {F : Nat → Prop} : ∀ {L : List PV} {xs : List Value}, PRep w F L xs → ∃ d : List PItem, d.map (·.p) = L ∧ xs = d.flatMap encI ∧ ∀ x ∈ d, GoodI w F x
  | [], xs, h => ⟨[], rfl, h, fun _ h => by simp at h⟩
  | ⟨nm, .mk k i t s l⟩ :: r, xs, h => by
    obtain ⟨A, c, ys, rfl, h2, h3, h4, h5⟩ := h
    obtain ⟨d, e1, e2, e3⟩ := PRep.items h5
    refine ⟨⟨⟨nm, .mk k i t s l⟩, A, c⟩ :: d, by simp [e1], by simp [e2, encI], fun x hx => ?_⟩
    rcases List.mem_cons.1 hx with rfl | hx
    · exact ⟨h2, h3, h4⟩
    · exact e3 x hx
theorem rep_of_items {w : World} {F : Nat → Prop} : ∀ (d : List PItem), (∀ x ∈ d, GoodI w F x) → PRep w F (d.map (·.p)) (d.flatMap encI)
  | [], _ => rfl
  | ⟨⟨nm, .mk k i t s l⟩, A, c⟩ :: d, h => by
    have h0 := h _ (List.mem_cons_self ..)
    exact ⟨A, c, d.flatMap encI, by simp [encI], h0.1, h0.2.1, h0.2.2, rep_of_items d (fun x hx => h x (List.mem_cons_of_mem _ hx))⟩
theorem flat_len : ∀ d : List PItem, (d.flatMap encI).length = d.length * 6
  | [] => rfl
  | x :: d => by rw [List.flatMap_cons, List.length_append, encI_len, flat_len d, List.length_cons]; omega
theorem flat_get : ∀ (d : List PItem) (t : Nat), t < d.length * 6 → (d.flatMap encI)[t]? = some ((encI d[t / 6]!)[t % 6]!)
  | [], t, h => absurd h (by simp)
  | x :: d, t, h => by
    rw [List.flatMap_cons]
    by_cases ht : t < 6
    · rw [List.getElem?_append_left (by rw [encI_len]; exact ht), Nat.div_eq_of_lt ht, Nat.mod_eq_of_lt ht]
      have hl : t < (encI x).length := by rw [encI_len]; exact ht
      rw [List.getElem?_eq_getElem hl]
      simp [hl]
    · obtain ⟨u, rfl⟩ : ∃ u, t = u + 6 := ⟨t - 6, by omega⟩
      rw [List.length_cons] at h
      rw [List.getElem?_append_right (by rw [encI_len]; omega), encI_len, Nat.add_sub_cancel, flat_get d u (by omega), Nat.add_div_right _ (by omega), Nat.add_mod_right]
      simp
theorem flatK_get (d : List PItem) (t : Nat) (h : t < d.length * 6) : (d.flatMap encI)[t]? = some ((Go.Sort.flatK encI 6 d.toArray)[t]!) := by
  rw [Go.Sort.get_flatK encI 6 d.toArray t (by simpa using h), flat_get d t h]
  simp
/-- A row of one's own holds its items. -/
theorem own_holds {w : World} {b c base : Nat} {d : List PItem} (h : w.ownsRow base 65 6 (.slice (some ⟨b, 0, none⟩) d.length c) d.length (d.flatMap encI)) : Go.Sort.HoldsK encI 6 w b 0 d.toArray := by
  intro j hj
  rw [Go.Sort.size_flatK] at hj
  have hj2 : j < d.length * 6 := by simpa using hj
  refine ⟨?_, by rw [Nat.zero_add]; exact h.frozenAt j⟩
  rw [Nat.zero_add, h.cellAt j hj2, flatK_get d j hj2]
  rfl
/-- .. and after a sort. -/
theorem own_sorted {w : World} {b c base : Nat} {d : List PItem} {d' : Array PItem} (h : w.ownsRow base 65 6 (.slice (some ⟨b, 0, none⟩) d.length c) d.length (d.flatMap encI)) (hs : d'.size = d.length) (m : Nat) (os : Array Obj) :
    (sortWorldK encI 6 w b 0 m d' os).ownsRow base 65 6 (.slice (some ⟨b, 0, none⟩) d.length c) d.length (d'.toList.flatMap encI) ∧ w.grownBy (sortWorldK encI 6 w b 0 m d' os) (some b) := by
  have hlt := (h.lt b rfl).2
  have hl := h.1
  rcases h.2 with ⟨h', _⟩ | ⟨g', cap', cur, h', hb, hg, hnc, hcm, hcs, htake⟩
  · simp at h'
  · simp only [Value.slice.injEq, Option.some.injEq, Addr.mk.injEq, and_true, true_and] at h'
    obtain ⟨rfl, rfl⟩ := h'
    have hheap : ∀ k, k < w.heap.size → (sortWorldK encI 6 w b 0 m d' os).heap[k]? = (Go.Sort.putRowK encI 6 w b 0 d').heap[k]? := fun k hk => by
      unfold sortWorldK
      rw [Go.Sort.heap_grow_old _ _ (by rw [Go.Sort.putRowK, Go.Sort.size_putRow]; exact hk)]
      rfl
    have hput : ∀ k, (Go.Sort.putRowK encI 6 w b 0 d').heap[k]? = if b = k then (w.heap[k]?).map (Go.Sort.onCells (Go.Sort.putCells id 0 (Go.Sort.flatK encI 6 d'))) else w.heap[k]? := fun k => by
      unfold Go.Sort.putRowK Go.Sort.putRow Go.Sort.mapBlock
      simp only [Array.getElem?_modify]
    refine ⟨⟨by rw [flat_len]; simp [hs], .inr ⟨b, c, Go.Sort.putCells id 0 (Go.Sort.flatK encI 6 d') cur, rfl, hb, ?_, hnc, hcm, by simp [Go.Sort.putCells, hcs], ?_⟩⟩, ?_⟩
    · rw [hheap b hlt, hput b, if_pos rfl, hg]
      rfl
    · apply List.ext_getElem?
      intro t
      by_cases ht : t < d.length * 6
      · rw [List.getElem?_take, if_pos ht, flat_get d'.toList t (by simpa [hs] using ht)]
        have hF : t < (Go.Sort.flatK encI 6 d').size := by rw [Go.Sort.size_flatK, hs]; exact ht
        have e := Go.Sort.get_flatK encI 6 d' t (by rw [hs]; exact ht)
        have hcur : t < cur.size := by rw [hcs]; omega
        have hq : t / 6 < d'.size := by rw [hs]; omega
        have e2 : d'.toList[t / 6]! = d'[t / 6]! := by
          rw [getElem!_pos d' _ hq, getElem!_pos d'.toList _ (by simpa using hq)]
          exact Array.getElem_toList ..
        simp only [Go.Sort.putCells, Array.getElem?_toList, Array.getElem?_mapIdx, Array.getElem?_eq_getElem hcur, Option.map_some, Nat.zero_le, true_and, Nat.zero_add, hF, if_true, id, Nat.sub_zero, e, e2]
      · rw [List.getElem?_take, if_neg ht, List.getElem?_eq_none (by rw [flat_len]; simp [hs]; omega)]
    · refine ⟨rfl, rfl, rfl, ?_, fun k hk hne => ?_⟩
      · unfold sortWorldK
        rw [Go.Sort.size_grow, Go.Sort.putRowK, Go.Sort.size_putRow]
        exact Nat.le_add_right _ _
      · rw [hheap k hk, hput k, if_neg (fun e => hne (by rw [e]))]
/-- A list of one's own lies in memory. -/
theorem rep_prow {w : World} {F : Nat → Prop} {B : Nat} (hF : ∀ k, F k → k < B) : ∀ {L : List PV} {xs : List Value} (b off : Nat), b < B → PRep w F L xs → (∀ j u, xs[j]? = some u → w.cell? ⟨b, off + j, none⟩ = some u) → PRow w B L b off
  | [], _, _, _, _, _, _ => trivial
  | ⟨nm, .mk k i t s l⟩ :: r, xs, b, off, hb, h, hc => by
    obtain ⟨A, c, ys, rfl, h2, h3, h4, h5⟩ := h
    unfold PRow
    refine ⟨⟨hb, hc 0 _ rfl, h2, ?_⟩, rep_prow hF b (off + 6) hb h5 (fun j u hj => ?_)⟩
    · obtain ⟨A', c', e, g1, g2, g3⟩ := h4.toAt (B := B) hF
      injection e with e1 e2 e3
      subst e1 e3
      unfold CellsAt
      exact ⟨hb, hc 1 _ rfl, hc 2 _ rfl, hc 3 _ rfl, hc 4 _ rfl, h3, A, c, hc 5 _ rfl, g1, g2, g3⟩
    · have := hc (j + 6) u (by simpa using hj)
      rw [show off + (j + 6) = off + 6 + j by omega] at this
      exact this
theorem PrOwn.psl {w wx : World} {B0 : Nat} {L : List PV} {v : Value} (h : PrOwn w B0 L v wx) (hl : L.length ≤ 1048576) : PSl wx wx.heap.size L v := by
  obtain ⟨F, xs, hown, hrep, hF, hFo⟩ := h.rep
  rcases hown.2 with ⟨e1, e2⟩ | ⟨g, cap, cur, e1, hb, hg, hnc, hcm, hcs, htake⟩
  · have hL : L = [] := List.eq_nil_of_length_eq_zero e2
    subst hL
    exact ⟨none, 0, e1, by simp, by simp, .inl rfl⟩
  · refine ⟨_, cap, e1, hl, hnc, .inr ⟨g, 0, rfl, ?_⟩⟩
    have hlt := (hown.lt g (by rw [e1]; rfl)).2
    refine rep_prow (fun k hk => (hF k hk).1) g 0 hlt hrep (fun j u hj => ?_)
    rw [e1] at hown
    have hj2 : j < L.length * 6 := by
      have := (List.getElem?_eq_some_iff.1 hj).1
      rw [hown.1] at this
      exact this
    rw [Nat.zero_add, hown.cellAt j hj2]
    exact hj
end Go.Proofs.YtggnocajpnmemaaGreatDoor
namespace Go.Proofs.YtggnocajpnmemaaGreatDoor
open Go.RowKit Go.Shelf

def ltP (a b : PV) : Prop := a.nm.toList < b.nm.toList
def Asc (l : List PV) : Prop := l.Pairwise ltP
theorem Asc.wo {l : List PV} (h : Asc l) (q : ByteArray) : Asc (woL l q) := List.Pairwise.filter _ h
theorem wo_ne {l : List PV} {q : ByteArray} {p : PV} (h : p ∈ woL l q) : p.nm.toList ≠ q.toList := by
  have h1 := (List.mem_filter.1 h).2
  intro e
  simp [e] at h1
def insL (m : List PV) (r : Nat) (x : PV) : List PV := m.take r ++ x :: m.drop r
theorem asc_ins {m : List PV} {r : Nat} {x : PV} (h : Asc m) (h1 : ∀ t (ht : t < m.length), t < r → ltP m[t] x) (h2 : ∀ t (ht : t < m.length), r ≤ t → ltP x m[t]) : Asc (insL m r x) := by
  have hg := List.pairwise_iff_getElem.1 h
  unfold Asc insL
  rw [List.pairwise_append, List.pairwise_cons]
  refine ⟨List.Pairwise.sublist (List.take_sublist _ _) h, ⟨fun y hy => ?_, List.Pairwise.sublist (List.drop_sublist _ _) h⟩, fun a ha b hb => ?_⟩
  · obtain ⟨j, hj, rfl⟩ := List.mem_iff_getElem.1 hy
    rw [List.getElem_drop]
    exact h2 _ _ (Nat.le_add_right _ _)
  · obtain ⟨i, hi, rfl⟩ := List.mem_iff_getElem.1 ha
    rw [List.length_take] at hi
    rw [List.getElem_take]
    rcases List.mem_cons.1 hb with rfl | hb
    · exact h1 _ _ (by omega)
    · obtain ⟨j, hj, rfl⟩ := List.mem_iff_getElem.1 hb
      rw [List.getElem_drop]
      exact hg _ _ _ _ (by omega)
theorem asc_eq {l : List PV} (h : Asc l) {a b : PV} (ha : a ∈ l) (hb : b ∈ l) (h1 : ¬ ltP a b) (h2 : ¬ ltP b a) : a = b := by
  obtain ⟨i, hi, rfl⟩ := List.mem_iff_getElem.1 ha
  obtain ⟨j, hj, rfl⟩ := List.mem_iff_getElem.1 hb
  have hg := List.pairwise_iff_getElem.1 h
  rcases Nat.lt_trichotomy i j with e | e | e
  · exact absurd (hg i j hi hj e) h1
  · subst e; rfl
  · exact absurd (hg j i hj hi e) h2
theorem ins_perm (m : List PV) (r : Nat) (x : PV) : (m ++ [x]).Perm (insL m r x) := by
  unfold insL
  refine (List.perm_append_comm.trans ?_).trans List.perm_middle.symm
  rw [List.take_append_drop]
  exact List.Perm.refl _
theorem insL_len' (m : List PV) (r : Nat) (x : PV) : (insL m r x).length = m.length + 1 := by
  have := (ins_perm m r x).length_eq
  rw [← this]; simp
/-- A sorted list of the same properties is the list with x put in. -/
theorem sorted_ins {m e : List PV} {r : Nat} {x : PV} (hi : Asc (insL m r x)) (hp : e.Perm (m ++ [x])) (hs : e.Pairwise fun a b => ¬ ltP b a) : e = insL m r x := by
  have hp2 := hp.trans (ins_perm m r x)
  refine List.Perm.eq_of_pairwise (le := fun a b => ¬ ltP b a) (fun a b ha hb h1 h2 => asc_eq hi (hp2.subset ha) hb h2 h1) hs ?_ hp2
  exact List.Pairwise.imp (fun hab h => List.lt_asymm hab h) hi
/-- cmp of two items: their names. -/
def cfI (x y : PItem) : Int := Lib.compareBytes x.p.nm.data.toList y.p.nm.data.toList
theorem cmpBytes_lt : ∀ a b : List UInt8, Lib.compareBytes a b = if a < b then -1 else if b < a then 1 else 0
  | [], [] => by simp [Lib.compareBytes, List.lt_irrefl]
  | [], _ :: _ => by simp [Lib.compareBytes]
  | _ :: _, [] => by simp [Lib.compareBytes]
  | x :: a, y :: b => by
    unfold Lib.compareBytes
    rw [cmpBytes_lt a b]
    simp only [List.cons_lt_cons_iff]
    by_cases h : x < y
    · simp [h]
    · by_cases g : y < x
      · have : x ≠ y := fun e => by subst e; exact h g
        simp [h, g, this]
      · have : x = y := UInt8.le_antisymm (UInt8.not_lt.1 g) (UInt8.not_lt.1 h)
        subst this
        simp [UInt8.lt_irrefl]
theorem ltI_iff (x y : PItem) : ltOf cfI x y = true ↔ ltP x.p y.p := by
  unfold ltOf cfI ltP
  rw [decide_eq_true_iff, cmpBytes_lt, Lib.toList_data, Lib.toList_data]
  by_cases h : x.p.nm.data.toList < y.p.nm.data.toList
  · simp [h]
  · by_cases g : y.p.nm.data.toList < x.p.nm.data.toList <;> simp [h, g]
theorem ltI_not (x y : PItem) : ltOf cfI x y = false ↔ ¬ ltP x.p y.p := by
  rw [← ltI_iff, Bool.not_eq_true]
theorem swoI : Go.Sort.SWO (ltOf cfI) where
  irrefl x := (ltI_not x x).2 (List.lt_irrefl _)
  trans x y z h1 h2 := (ltI_iff x z).2 (List.lt_trans ((ltI_iff x y).1 h1) ((ltI_iff y z).1 h2))
  ntrans x y z h1 h2 := (ltI_not x z).2 (fun h => by
    have h1 := (ltI_not x y).1 h1
    have h2 := (ltI_not y z).1 h2
    unfold ltP at h h1 h2
    rw [List.not_lt] at h1 h2
    exact absurd h (List.not_lt.2 (List.le_trans h2 h1)))
/-- What the sort leaves, as a list of properties. -/
theorem sorted_items {d : List PItem} {d' : Array PItem} {m : List PV} {x : PV} {r : Nat} (hd : d.map (·.p) = m ++ [x]) (hi : Asc (insL m r x)) (hp : Go.Sort.PermIn 0 d.length d.toArray d') (hs : Go.Sort.SortedIn (ltOf cfI) 0 d.length d') :
    d'.size = d.length ∧ d'.toList.map (·.p) = insL m r x ∧ d'.toList.Perm d := by
  obtain ⟨h1, _, h3⟩ := hp
  have h1 : d'.size = d.length := by simpa using h1
  have e1 : d'.extract 0 d.length = d' := by rw [← h1]; exact Array.extract_size
  have e2 : d.toArray.extract 0 d.length = d.toArray := by
    rw [show d.length = d.toArray.size by simp]; exact Array.extract_size
  rw [e1, e2] at h3
  have hp3 : d'.toList.Perm d := by simpa using h3
  refine ⟨h1, ?_, hp3⟩
  refine sorted_ins hi (by rw [← hd]; exact hp3.map _) ?_
  rw [List.pairwise_map, List.pairwise_iff_getElem]
  intro i j hi hj hij
  have := hs i j (Nat.zero_le _) hij (by simpa [h1] using hj)
  rw [ltI_not] at this
  have hi' : i < d'.size := by simpa using hi
  have hj' : j < d'.size := by simpa using hj
  rw [getElem!_pos d' i hi', getElem!_pos d' j hj'] at this
  simpa using this
end Go.Proofs.YtggnocajpnmemaaGreatDoor
namespace Go.Proofs.YtggnocajpnmemaaGreatDoor
open Go.RowKit Go.Shelf

theorem aggPr (w : World) : (isAgg 65).run Tryz.prog w = .ok true w := by kernel_rfl
theorem szPr (w : World) : (Go.sizeOf 65).run Tryz.prog w = .ok 6 w := by kernel_rfl
set_option maxRecDepth 100000 in
set_option maxHeartbeats 4000000 in
theorem withCmp_any (n1 n2 : ByteArray) (k1 i1 t1 k2 i2 t2 : Int) (s1 s2 : ByteArray) (g1 g2 : Value) (w : World) :
    Calls Tryz.prog 114 #[.agg #[.string n1, .int .i64 k1, .int .i64 i1, .int .i64 t1, .string s1, g1], .agg #[.string n2, .int .i64 k2, .int .i64 i2, .int .i64 t2, .string s2, g2]] w fun e w' =>
      e = .returned (.int .i64 (Lib.compareBytes n1.data.toList n2.data.toList)) ∧ ∃ q os, w' = Go.Sort.grow (w.drewN q) os := by
  have HC := Lib.hid (fun W => Tryz.strings_Compare n1 n2 W)
  generalize Lib.compareBytes n1.data.toList n2.data.toList = r at HC ⊢
  go_enter Tryz.func114, Tryz.ntmps114
  go_wp2_with fail
  refine (HC.out _).mono ?_
  rintro e w' ⟨rfl, rfl⟩
  go_wp2_with fail
  go_ret
  exact ⟨rfl, 0, _, by rw [Go.Sort.alloc_eq_grow, Go.Sort.alloc_eq_grow, Go.Sort.grow_grow]; rfl⟩
theorem cmpLaysP (blk off size : Nat) (w : World) : CmpLays Tryz.prog 114 #[] encI 6 cfI blk off size w := by
  intro m os dk hd x y
  obtain ⟨⟨n1, ⟨k1, i1, t1, s1, l1⟩⟩, A1, c1⟩ := x
  obtain ⟨⟨n2, ⟨k2, i2, t2, s2, l2⟩⟩, A2, c2⟩ := y
  exact withCmp_any n1 n2 k1 i1 t1 k2 i2 t2 s1 s2 _ _ _
/-- slices.SortFunc by name, of a row of one's own. -/
theorem propSort_any (d : List PItem) (b c base : Nat) (w : World) (hn : d.length ≤ 1048576) (ho : w.ownsRow base 65 6 (.slice (some ⟨b, 0, none⟩) d.length c) d.length (d.flatMap encI)) :
    Calls Tryz.prog 113 #[.slice (some ⟨b, 0, none⟩) d.length c, .func (Fn.func 114) #[] #[]] w fun e w' =>
      e = .returned (.tuple #[]) ∧ ∃ d' : Array PItem, Go.Sort.PermIn 0 d.length d.toArray d' ∧ Go.Sort.SortedIn (ltOf cfI) 0 d.length d' ∧ w'.ownsRow base 65 6 (.slice (some ⟨b, 0, none⟩) d.length c) d.length (d'.toList.flatMap encI) ∧ w.grownBy w' (some b) := by
  have eg : ∀ args w, (callFunc 114 args).run Tryz.prog w = .ok (.enter 114 args) w := enters_of Tryz.func114 (by kernel_rfl) rfl
  have h := AnyQ.slices_SortFunc Tryz.sortProp 6 aggPr szPr encI encI_len encI_one cfI swoI 114 #[] b 0 c d.toArray w eg (cmpLaysP b 0 _ w) (own_holds ho) (ho.lt b rfl).2 (by simp; omega)
  refine h.mono ?_
  rintro e w' ⟨rfl, d', n, os, hp, hs, rfl⟩
  have hsz : d'.size = d.length := by simpa using hp.1
  have h2 := own_sorted (d' := d') ho hsz n os
  refine ⟨rfl, d', by simpa using hp, by simpa using hs, h2.1, h2.2⟩
end Go.Proofs.YtggnocajpnmemaaGreatDoor
namespace Go.Proofs.YtggnocajpnmemaaGreatDoor
open Go.RowKit Go.Shelf

set_option maxRecDepth 100000 in
set_option maxHeartbeats 4000000 in
theorem propIndex_none (f : Value) (w : World) :
    Calls Tryz.prog 159 #[.slice none 0 0, f] w fun e w' => e = .returned (.int .i64 (-1)) ∧ Below w.heap.size w w' := by
  go_enter Tryz.func159, Tryz.ntmps159
  go_wp2_with fail
  go_loopw [8] (fun iv wx => ∃ j : Nat, iv = .int .i64 j ∧ j = 0 ∧ Below w.heap.size w wx) (fun iv _ => 0 - (intOf iv).toNat)
  case atStart => exact ⟨0, rfl, rfl, Below.refl _ _⟩
  case round =>
    obtain ⟨j, rfl, hj, hb⟩ := hrel
    subst hj
    go_wp2_with fail
    go_ret
    exact ⟨rfl, hb⟩
set_option maxRecDepth 100000 in
set_option maxHeartbeats 4000000 in
theorem propDelete_none (f : Value) (w : World) :
    Calls Tryz.prog 110 #[.slice none 0 0, f] w fun e w' => e = .returned (.slice none 0 0) ∧ Below w.heap.size w w' := by
  have HC := Lib.hid (propIndex_none f w)
  go_enter Tryz.func110, Tryz.ntmps110
  go_wp2_with fail
  refine HC.out.mono ?_
  rintro e1 w1 ⟨rfl, hb1⟩
  go_wp2_with fail
  go_ret
  exact ⟨rfl, hb1⟩
/-- A list of one's own, its row not among the values' blocks, behind a start. -/
structure OwnAt (w : World) (base : Nat) (L : List PV) (v : Value) (wx : World) : Prop where
  bel : Below base w wx
  le : base ≤ wx.heap.size
  rep : ∃ (F : Nat → Prop) (xs : List Value), wx.ownsRow base 65 6 v L.length xs ∧ PRep wx F L xs ∧ (∀ k, F k → k < wx.heap.size) ∧ ∀ g, v.ownBlock = some g → ¬ F g
theorem OwnAt.pr {w W wx : World} {base : Nat} {L : List PV} {v : Value} (h : OwnAt W base L v wx) (hb : Below w.heap.size w wx) (hw : w.heap.size ≤ base) : PrOwn w w.heap.size L v wx := by
  obtain ⟨F, xs, h1, h2, h3, h4⟩ := h.rep
  exact ⟨hb, F, xs, own_base h1 (fun g hg => by have := (h1.lt g hg).1; omega), h2, fun k hk => ⟨h3 k hk, by omega⟩, h4⟩
theorem PrOwn.at {w wx : World} {L : List PV} {v : Value} {B0 : Nat} (h : PrOwn w B0 L v wx) : OwnAt w w.heap.size L v wx := by
  obtain ⟨F, xs, h1, h2, h3, h4⟩ := h.rep
  exact ⟨h.bel, h.bel.size, F, xs, h1, h2, fun k hk => (h3 k hk).1, h4⟩
/-- slices.DeleteFunc by a name, of any list of one's own. -/
theorem deleted_any (L : List PV) (q : ByteArray) (v : Value) (bx base : Nat) (W w : World) (hn : L.length ≤ 1048576) (ho : OwnAt W base L v w) (hbx : bx < base) (hq : w.cell? ⟨bx, 0, none⟩ = some (.string q)) :
    Calls Tryz.prog 110 #[v, .func (Fn.func 112) #[] #[.pointer (some ⟨bx, 0, none⟩)]] w fun e w' =>
      ∃ v', e = .returned v' ∧ OwnAt W base (woL L q) v' w' := by
  have hle := ho.le
  have hbel := ho.bel
  obtain ⟨F, xs, h1, h2, h3, h4⟩ := ho.rep
  rcases h1.2 with ⟨e1, e2⟩ | ⟨g, c, cur, e1, hb, hg, hnc, hcm, hcs, htake⟩
  · have hL : L = [] := List.eq_nil_of_length_eq_zero e2
    subst hL e1
    refine (propDelete_none _ w).mono ?_
    rintro e w' ⟨rfl, hb⟩
    refine ⟨_, rfl, hbel.trans (hb.mono hle), Nat.le_trans hle hb.size, F, xs, own_kept h1 (fun k hk => by simp [Value.ownBlock] at hk), h2.keep (fun k hk => hb.block k (h3 k hk)) (fun _ h => h), fun k hk => Nat.lt_of_lt_of_le (h3 k hk) hb.size, fun g hg => by simp [Value.ownBlock] at hg⟩
  · subst e1
    refine (propDelete_any L xs F q bx g c base w hn h1 h2 (fun k hk => ⟨h3 k hk, fun e => h4 g rfl (e ▸ hk)⟩) (by omega) (by omega) hq).mono ?_
    rintro e w' ⟨rfl, hD⟩
    obtain ⟨ys, g1, g2⟩ := hD.rep
    refine ⟨_, rfl, ⟨hD.os.trans hbel.os, hD.tape.trans hbel.tape, hD.output.trans hbel.output, Nat.le_trans hbel.size hD.size, fun k hk => (hD.block k (by omega) (by omega)).trans (hbel.block k hk)⟩, Nat.le_trans hle hD.size, F, ys, g1, g2, fun k hk => Nat.lt_of_lt_of_le (h3 k hk) hD.size, fun g' hg' => ?_⟩
    simp only [Value.ownBlock, Option.some.injEq] at hg'
    subst hg'
    exact h4 _ rfl
/-- .. appended to. -/
theorem OwnAt.push {W w w4 : World} {base : Nat} {L : List PV} {v : Value} (h : OwnAt W base L v w) {o : Obj} {F : Nat → Prop} {xs : List Value} {nm sx : ByteArray} {kx ix tx : Int} {lx : List V} {A' : Option Addr} {c' gg cap : Nat}
    (h1 : w.ownsRow base 65 6 v L.length xs) (h2 : PRep w F L xs) (h3 : ∀ k, F k → k < w.heap.size) (h4 : ∀ g, v.ownBlock = some g → ¬ F g)
    (hs : SlF w (fun b => b < base) lx (.slice A' lx.length c')) (hz : nm.size ≤ 1048576 ∧ sx.size ≤ 1048576)
    (ho4 : w4.ownsRow base 65 6 (.slice (some ⟨gg, 0, none⟩) (L.length + 1) cap) (L.length + 1) (xs ++ [.string nm, .int .i64 kx, .int .i64 ix, .int .i64 tx, .string sx, .slice A' lx.length c']))
    (hg : (w.alloc o).grownBy w4 v.ownBlock) (hat : v.ownBlock = some gg ∨ gg = w.heap.size + 1) : OwnAt W base (L ++ [⟨nm, .mk kx ix tx sx lx⟩]) (.slice (some ⟨gg, 0, none⟩) (L.length + 1) cap) w4 := by
  have hle := h.le
  have hbel := h.bel
  have hsz4 := hg.size
  simp only [World.size_alloc] at hsz4
  have hlt : ∀ g, v.ownBlock = some g → base ≤ g ∧ g < w.heap.size := fun g hg => h1.lt g hg
  have hk4 : ∀ b, b < w.heap.size → v.ownBlock ≠ some b → w4.heap[b]? = w.heap[b]? := fun b hb hne => by
    rw [hg.block b (by simp; omega) (fun e => hne e.symm)]
    exact Below.heap_alloc _ _ _ hb
  refine ⟨(hbel.alloc hle o).grown hg (by simp; omega) (fun k hk => (hlt k hk).1), by omega, fun b => F b ∨ b < base, _, ?_, PRep.snoc hz.1 hz.2 (hs.keep (fun b hb => hk4 b (by omega) (fun e => ?_)) (fun b hb => .inr hb)) (h2.keep (fun b hb => hk4 b (h3 b hb) (fun e => h4 b e hb)) (fun b hb => .inl hb)), fun k hk => ?_, fun g hg2 => ?_⟩
  · rw [List.length_append]
    exact ho4
  · have := hlt b e
    omega
  · rcases hk with hk | hk
    · have := h3 k hk; omega
    · omega
  · simp only [Value.ownBlock, Option.some.injEq] at hg2
    subst hg2
    rcases hat with e | e
    · rintro (h5 | h5)
      · exact h4 _ e h5
      · have := hlt _ e; omega
    · rintro (h5 | h5)
      · have := h3 _ h5; omega
      · omega
/-- slices.SortFunc by name: a list in order with a property put to its end. -/
theorem sorted_any (m : List PV) (x : PV) (r : Nat) (v : Value) (base : Nat) (W w : World) (hn : (m ++ [x]).length ≤ 1048576) (ho : OwnAt W base (m ++ [x]) v w) (hi : Asc (insL m r x)) :
    Calls Tryz.prog 113 #[v, .func (Fn.func 114) #[] #[]] w fun e w' => e = .returned (.tuple #[]) ∧ OwnAt W base (insL m r x) v w' := by
  have hle := ho.le
  have hbel := ho.bel
  obtain ⟨F, xs, h1, h2, h3, h4⟩ := ho.rep
  obtain ⟨d, hd, hxs, hgood⟩ := h2.items
  subst hxs
  have hdl : d.length = (m ++ [x]).length := by rw [← hd, List.length_map]
  rcases h1.2 with ⟨e1, e2⟩ | ⟨g, c, cur, e1, hb, hg, hnc, hcm, hcs, htake⟩
  · simp at e2
  · subst e1
    rw [← hdl] at h1 hn ⊢
    refine (propSort_any d g c base w hn h1).mono ?_
    rintro e w' ⟨rfl, d', hp, hs, g1, g2⟩
    obtain ⟨s1, s2, s3⟩ := sorted_items hd hi hp hs
    have hlen : (insL m r x).length = d.length := by rw [← s2, List.length_map]; simpa using s1
    refine ⟨rfl, ⟨g2.os.trans hbel.os, g2.tape.trans hbel.tape, g2.output.trans hbel.output, Nat.le_trans hbel.size g2.size, fun k hk => (g2.block k (by omega) (by simp; omega)).trans (hbel.block k hk)⟩, Nat.le_trans hle g2.size, F, _, by rw [hlen]; exact g1, ?_, fun k hk => Nat.lt_of_lt_of_le (h3 k hk) g2.size, h4⟩
    rw [← s2]
    refine rep_of_items _ (fun y hy => ?_)
    have hy := hgood y (s3.subset hy)
    obtain ⟨⟨nm, ⟨k, i, t, s, l⟩⟩, A, c⟩ := y
    exact ⟨hy.1, hy.2.1, hy.2.2.keep (fun b hb => g2.block b (h3 b hb) (fun e => h4 b e.symm hb)) (fun _ h => h)⟩
end Go.Proofs.YtggnocajpnmemaaGreatDoor
namespace Go.Proofs.YtggnocajpnmemaaGreatDoor
open Go.RowKit Go.Shelf

set_option maxRecDepth 100000 in
set_option maxHeartbeats 8000000 in
theorem with_any (l : List PV) (q : ByteArray) (A : Option Addr) (c : Nat) (k i t : Int) (s : ByteArray) (lx : List V) (A2 : Option Addr) (c2 : Nat) (r : Nat) (w : World)
    (hl : PSl w w.heap.size l (.slice A l.length c)) (hn : l.length ≤ 1000) (hv : SlAt w w.heap.size lx (.slice A2 lx.length c2)) (hz : q.size ≤ 1048576 ∧ s.size ≤ 1048576) (hi : k ≠ 0 → Asc (insL (woL l q) r ⟨q, .mk k i t s lx⟩)) :
    Calls Tryz.prog 49 #[.slice A l.length c, .string q, .agg #[.int .i64 k, .int .i64 i, .int .i64 t, .string s, .slice A2 lx.length c2]] w fun e w' => ∃ v, e = .returned v ∧ PrOwn w w.heap.size (if k = 0 then woL l q else insL (woL l q) r ⟨q, .mk k i t s lx⟩) v w' := by
  have HCL := Lib.hid (fun W (hW : Below w.heap.size w W) => propClone_any l A c W ((hl.below hW (Nat.le_refl _)).up hW.size))
  obtain ⟨i0, hi0, hz0, hz1, hz2⟩ := info_parts infoPr
  have HI := Lib.hid hi
  have HV := Lib.hid (hv.toF (F := fun b => b < w.heap.size) (fun _ h => h))
  have HNL := Lib.hid hn
  obtain ⟨m, hm⟩ : ∃ m, m = lx.length := ⟨_, rfl⟩
  have HM := Lib.hid hm
  rw [← hm]
  have HZ := Lib.hid hz
  generalize l.length = n at HCL ⊢
  clear hl hi hv hn hm
  go_enter Tryz.func49, Tryz.ntmps49
  go_wp2_with fail
  obtain ⟨W0, hW0⟩ : ∃ W0, W0 = (w.alloc (.cells #[.string q] 9)).alloc (.cells #[.int .i64 k, .int .i64 i, .int .i64 t, .string s, .slice A2 m c2] 24) := ⟨_, rfl⟩
  have hb0 : Below w.heap.size w W0 := by rw [hW0]; exact ((Below.refl _ w).alloc (Nat.le_refl _) _).alloc (by simp) _
  have hs0 : W0.heap.size = w.heap.size + 2 := by rw [hW0]; simp
  have hn0 : W0.heap[w.heap.size]? = some (.cells #[.string q] 9 (0, 0)) := by
    rw [hW0, Below.heap_alloc _ _ _ (by simp)]
    exact heap_alloc_new w _
  have hv0 : W0.heap[w.heap.size + 1]? = some (.cells #[.int .i64 k, .int .i64 i, .int .i64 t, .string s, .slice A2 m c2] 24 (0, 0)) := by
    rw [hW0]
    have := heap_alloc_new (w.alloc (.cells #[.string q] 9)) (.cells #[.int .i64 k, .int .i64 i, .int .i64 t, .string s, .slice A2 m c2] 24)
    simpa using this
  rw [← hW0]
  have HB0 := Lib.hid hb0
  have HN0 := Lib.hid hn0
  have HV0 := Lib.hid hv0
  clear hW0 hn0 hv0
  refine (HCL.out W0 hb0).mono ?_
  rintro e1 w1 ⟨v1, rfl, hP⟩
  have HO1 : Hid (OwnAt W0 (w.heap.size + 2) l v1 w1) := Lib.hid (by have := hP.at; rwa [hs0] at this)
  have hq1 : w1.cell? ⟨w.heap.size, 0, none⟩ = some (.string q) := cell_of_row w1 _ 0 _ _ (0, 0) ((HO1.out.bel.block _ (by omega)).trans HN0.out)
  have HD := Lib.hid (deleted_any l q v1 w.heap.size (w.heap.size + 2) W0 w1 (by have := HNL.out; omega) HO1.out (by omega) hq1)
  clear hP hb0
  go_wp2_with fail
  refine HD.out.mono ?_
  rintro e2 w2 ⟨v2, rfl, hO⟩
  have hle := hO.le
  have hnm2 : w2.heap[w.heap.size]? = some (.cells #[.string q] 9 (0, 0)) := (hO.bel.block _ (by omega)).trans HN0.out
  have hvv2 : w2.heap[w.heap.size + 1]? = some (.cells #[.int .i64 k, .int .i64 i, .int .i64 t, .string s, .slice A2 m c2] 24 (0, 0)) := (hO.bel.block _ (by omega)).trans HV0.out
  have d0 := cell_of_row w2 _ 0 _ _ (0, 0) hvv2
  have d1 := cell_of_row w2 _ 1 _ _ (0, 0) hvv2
  have d2 := cell_of_row w2 _ 2 _ _ (0, 0) hvv2
  have d3 := cell_of_row w2 _ 3 _ _ (0, 0) hvv2
  have d4 := cell_of_row w2 _ 4 _ _ (0, 0) hvv2
  have dn := cell_of_row w2 _ 0 _ _ (0, 0) hnm2
  have hwb : Below w.heap.size w w2 := HB0.out.trans (hO.bel.mono (by omega))
  have hwl := woL_len l q
  have HO := Lib.hid hO
  have HWB := Lib.hid hwb
  obtain ⟨F, xs, h1, h2, h3, h4⟩ := hO.rep
  obtain ⟨A0, c0, rfl⟩ := own_shape h1
  have H1 := Lib.hid h1
  have H2 := Lib.hid h2
  have H3 := Lib.hid h3
  have H4 := Lib.hid h4
  by_cases hk : k = 0
  · subst hk
    have HX : Hid (PrOwn w w.heap.size (woL l q) (.slice A0 (woL l q).length c0) w2) := Lib.hid (HO.out.pr HWB.out (by omega))
    generalize (woL l q).length = fl at HX ⊢
    clear hO h1 h2 h3 h4 hnm2 hvv2 hwb HO H1 H2 H3 H4
    go_wp2_with fail
    go_ret
    exact ⟨_, rfl, HX.out⟩
  · have hl2 : (woL l q).length ≤ 1000 := Nat.le_trans hwl HNL.out
    have HS : Hid (SlF w2 (fun b => b < w.heap.size + 2) lx (.slice A2 lx.length c2)) := Lib.hid (HV.out.keep (fun b hb => HWB.out.block b hb) (fun b hb => Nat.lt_of_lt_of_le hb (by omega)))
    have HFL : Hid ((woL l q).length = (woL l q).length) := Lib.hid rfl
    generalize hfl : (woL l q).length = fl at H1 H4 hl2 ⊢
    have HF2 := Lib.hid hfl
    clear hO h1 h2 h3 h4 hnm2 hvv2 hwb hfl hwl
    go_wp2_with (at_builtin; refine wpList_append_lies _ rfl _ _ 31 rfl (w.heap.size + 2) 65 i0 _ 6 80 Tryz.underlying31 hi0 hz0 hz1 hz2 rfl (by omega) (.slice A0 fl c0) fl xs rfl (H1.out.alloc _) ⟨w2.heap.size, 0, none⟩ 1 1 [.string q, .int .i64 k, .int .i64 i, .int .i64 t, .string s, .slice A2 m c2] rfl rfl (six_news w2 _ _ _ _ _ _ _) (by simp [Value.oneCell']) (by omega) (by unfold maxLen; omega) (by omega) (by simp; omega) (w2.heap.size + 1) (by simp) ?_)
    intro gg cap w4 ho4 hg4 hat4 hlt4
    have HP4 : Hid (OwnAt W0 (w.heap.size + 2) (woL l q ++ [⟨q, .mk k i t s lx⟩]) (.slice (some ⟨gg, 0, none⟩) (fl + 1) cap) w4) := Lib.hid (by
      have hf := HF2.out
      subst hf
      have ho5 := ho4
      rw [HM.out] at ho5
      exact HO.out.push H1.out H2.out H3.out H4.out HS.out HZ.out ho5 hg4 hat4)
    have HSO := Lib.hid (sorted_any (woL l q) ⟨q, .mk k i t s lx⟩ r _ (w.heap.size + 2) W0 w4 (by rw [List.length_append, HF2.out]; simp; omega) HP4.out (HI.out hk))
    clear ho4 hg4 hat4
    go_wp2_with fail
    refine HSO.out.mono ?_
    rintro e5 w5 ⟨rfl, hO5⟩
    have HX : Hid (PrOwn w w.heap.size (insL (woL l q) r ⟨q, .mk k i t s lx⟩) (.slice (some ⟨gg, 0, none⟩) (fl + 1) cap) w5) := Lib.hid (hO5.pr (HB0.out.trans (hO5.bel.mono (by omega))) (by omega))
    clear hO5
    go_wp2_with fail
    go_ret
    exact ⟨_, rfl, HX.out⟩
end Go.Proofs.YtggnocajpnmemaaGreatDoor
