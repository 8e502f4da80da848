/- Where a property goes in a list in order (pure). slices.SortFunc at properties, by name. The reference's with: pieces. -/
import Derived.Test.YtggnocajpnmemaaGreatDoorPcX
import Derived.Test.YtggnocajpnmemaaGreatDoorPaX
import Derived.Test.YtggnocajpnmemaaGreatDoorShelfS
import Derived.Test.YtggnocajpnmemaaGreatDoorShelf
namespace Go.Proofs.YtggnocajpnmemaaGreatDoor
open Go.RowKit Go.Shelf

def ltP (a b : PV) : Prop := a.nm.toList < b.nm.toList
def Asc (l : List PV) : Prop := l.Pairwise ltP
theorem Asc.wo {l : List PV} (h : Asc l) (q : ByteArray) : Asc (woL l q) := List.Pairwise.filter _ h
theorem wo_ne {l : List PV} {q : ByteArray} {p : PV} (h : p ∈ woL l q) : p.nm.toList ≠ q.toList := by
  have h1 := (List.mem_filter.1 h).2
  intro e
  simp [e] at h1
def insL (m : List PV) (r : Nat) (x : PV) : List PV := m.take r ++ x :: m.drop r
theorem asc_ins {m : List PV} {r : Nat} {x : PV} (h : Asc m) (h1 : ∀ t (ht : t < m.length), t < r → ltP m[t] x) (h2 : ∀ t (ht : t < m.length), r ≤ t → ltP x m[t]) : Asc (insL m r x) := by
  have hg := List.pairwise_iff_getElem.1 h
  unfold Asc insL
  rw [List.pairwise_append, List.pairwise_cons]
  refine ⟨List.Pairwise.sublist (List.take_sublist _ _) h, ⟨fun y hy => ?_, List.Pairwise.sublist (List.drop_sublist _ _) h⟩, fun a ha b hb => ?_⟩
  · obtain ⟨j, hj, rfl⟩ := List.mem_iff_getElem.1 hy
    rw [List.getElem_drop]
    exact h2 _ _ (Nat.le_add_right _ _)
  · obtain ⟨i, hi, rfl⟩ := List.mem_iff_getElem.1 ha
    rw [List.length_take] at hi
    rw [List.getElem_take]
    rcases List.mem_cons.1 hb with rfl | hb
    · exact h1 _ _ (by omega)
    · obtain ⟨j, hj, rfl⟩ := List.mem_iff_getElem.1 hb
      rw [List.getElem_drop]
      exact hg _ _ _ _ (by omega)
theorem asc_eq {l : List PV} (h : Asc l) {a b : PV} (ha : a ∈ l) (hb : b ∈ l) (h1 : ¬ ltP a b) (h2 : ¬ ltP b a) : a = b := by
  obtain ⟨i, hi, rfl⟩ := List.mem_iff_getElem.1 ha
  obtain ⟨j, hj, rfl⟩ := List.mem_iff_getElem.1 hb
  have hg := List.pairwise_iff_getElem.1 h
  rcases Nat.lt_trichotomy i j with e | e | e
  · exact absurd (hg i j hi hj e) h1
  · subst e; rfl
  · exact absurd (hg j i hj hi e) h2
theorem ins_perm (m : List PV) (r : Nat) (x : PV) : (m ++ [x]).Perm (insL m r x) := by
  unfold insL
  refine (List.perm_append_comm.trans ?_).trans List.perm_middle.symm
  rw [List.take_append_drop]
  exact List.Perm.refl _
theorem insL_len' (m : List PV) (r : Nat) (x : PV) : (insL m r x).length = m.length + 1 := by
  have := (ins_perm m r x).length_eq
  rw [← this]; simp
/-- A sorted list of the same properties is the list with x put in. -/
theorem sorted_ins {m e : List PV} {r : Nat} {x : PV} (hi : Asc (insL m r x)) (hp : e.Perm (m ++ [x])) (hs : e.Pairwise fun a b => ¬ ltP b a) : e = insL m r x := by
  have hp2 := hp.trans (ins_perm m r x)
  refine List.Perm.eq_of_pairwise (le := fun a b => ¬ ltP b a) (fun a b ha hb h1 h2 => asc_eq hi (hp2.subset ha) hb h2 h1) hs ?_ hp2
  exact List.Pairwise.imp (fun hab h => List.lt_asymm hab h) hi
/-- cmp of two items: their names. -/
def cfI (x y : PItem) : Int := Lib.compareBytes x.p.nm.data.toList y.p.nm.data.toList
theorem cmpBytes_lt : ∀ a b : List UInt8, Lib.compareBytes a b = if a < b then -1 else if b < a then 1 else 0
  | [], [] => by simp [Lib.compareBytes, List.lt_irrefl]
  | [], _ :: _ => by simp [Lib.compareBytes]
  | _ :: _, [] => by simp [Lib.compareBytes]
  | x :: a, y :: b => by
    unfold Lib.compareBytes
    rw [cmpBytes_lt a b]
    simp only [List.cons_lt_cons_iff]
    by_cases h : x < y
    · simp [h]
    · by_cases g : y < x
      · have : x ≠ y := fun e => by subst e; exact h g
        simp [h, g, this]
      · have : x = y := UInt8.le_antisymm (UInt8.not_lt.1 g) (UInt8.not_lt.1 h)
        subst this
        simp [UInt8.lt_irrefl]
theorem ltI_iff (x y : PItem) : ltOf cfI x y = true ↔ ltP x.p y.p := by
  unfold ltOf cfI ltP
  rw [decide_eq_true_iff, cmpBytes_lt, Lib.toList_data, Lib.toList_data]
  by_cases h : x.p.nm.data.toList < y.p.nm.data.toList
  · simp [h]
  · by_cases g : y.p.nm.data.toList < x.p.nm.data.toList <;> simp [h, g]
theorem ltI_not (x y : PItem) : ltOf cfI x y = false ↔ ¬ ltP x.p y.p := by
  rw [← ltI_iff, Bool.not_eq_true]
theorem swoI : Go.Sort.SWO (ltOf cfI) where
  irrefl x := (ltI_not x x).2 (List.lt_irrefl _)
  trans x y z h1 h2 := (ltI_iff x z).2 (List.lt_trans ((ltI_iff x y).1 h1) ((ltI_iff y z).1 h2))
  ntrans x y z h1 h2 := (ltI_not x z).2 (fun h => by
    have h1 := (ltI_not x y).1 h1
    have h2 := (ltI_not y z).1 h2
    unfold ltP at h h1 h2
    rw [List.not_lt] at h1 h2
    exact absurd h (List.not_lt.2 (List.le_trans h2 h1)))
/-- What the sort leaves, as a list of properties. -/
theorem sorted_items {d : List PItem} {d' : Array PItem} {m : List PV} {x : PV} {r : Nat} (hd : d.map (·.p) = m ++ [x]) (hi : Asc (insL m r x)) (hp : Go.Sort.PermIn 0 d.length d.toArray d') (hs : Go.Sort.SortedIn (ltOf cfI) 0 d.length d') :
    d'.size = d.length ∧ d'.toList.map (·.p) = insL m r x ∧ d'.toList.Perm d := by
  obtain ⟨h1, _, h3⟩ := hp
  have h1 : d'.size = d.length := by simpa using h1
  have e1 : d'.extract 0 d.length = d' := by rw [← h1]; exact Array.extract_size
  have e2 : d.toArray.extract 0 d.length = d.toArray := by
    rw [show d.length = d.toArray.size by simp]; exact Array.extract_size
  rw [e1, e2] at h3
  have hp3 : d'.toList.Perm d := by simpa using h3
  refine ⟨h1, ?_, hp3⟩
  refine sorted_ins hi (by rw [← hd]; exact hp3.map _) ?_
  rw [List.pairwise_map, List.pairwise_iff_getElem]
  intro i j hi hj hij
  have := hs i j (Nat.zero_le _) hij (by simpa [h1] using hj)
  rw [ltI_not] at this
  have hi' : i < d'.size := by simpa using hi
  have hj' : j < d'.size := by simpa using hj
  rw [getElem!_pos d' i hi', getElem!_pos d' j hj'] at this
  simpa using this
end Go.Proofs.YtggnocajpnmemaaGreatDoor
namespace Go.Proofs.YtggnocajpnmemaaGreatDoor
open Go.RowKit Go.Shelf

theorem aggPr (w : World) : (isAgg 65).run Tryz.prog w = .ok true w := by kernel_rfl
theorem szPr (w : World) : (Go.sizeOf 65).run Tryz.prog w = .ok 6 w := by kernel_rfl
set_option maxRecDepth 100000 in
set_option maxHeartbeats 4000000 in
theorem withCmp_any (n1 n2 : ByteArray) (k1 i1 t1 k2 i2 t2 : Int) (s1 s2 : ByteArray) (g1 g2 : Value) (w : World) :
    Calls Tryz.prog 114 #[.agg #[.string n1, .int .i64 k1, .int .i64 i1, .int .i64 t1, .string s1, g1], .agg #[.string n2, .int .i64 k2, .int .i64 i2, .int .i64 t2, .string s2, g2]] w fun e w' =>
      e = .returned (.int .i64 (Lib.compareBytes n1.data.toList n2.data.toList)) ∧ ∃ q os, w' = Go.Sort.grow (w.drewN q) os := by
  have HC := Lib.hid (fun W => Tryz.strings_Compare n1 n2 W)
  generalize Lib.compareBytes n1.data.toList n2.data.toList = r at HC ⊢
  go_enter Tryz.func114, Tryz.ntmps114
  go_wp2_with fail
  refine (HC.out _).mono ?_
  rintro e w' ⟨rfl, rfl⟩
  go_wp2_with fail
  go_ret
  exact ⟨rfl, 0, _, by rw [Go.Sort.alloc_eq_grow, Go.Sort.alloc_eq_grow, Go.Sort.grow_grow]; rfl⟩
theorem cmpLaysP (blk off size : Nat) (w : World) : CmpLays Tryz.prog 114 #[] encI 6 cfI blk off size w := by
  intro m os dk hd x y
  obtain ⟨⟨n1, ⟨k1, i1, t1, s1, l1⟩⟩, A1, c1⟩ := x
  obtain ⟨⟨n2, ⟨k2, i2, t2, s2, l2⟩⟩, A2, c2⟩ := y
  exact withCmp_any n1 n2 k1 i1 t1 k2 i2 t2 s1 s2 _ _ _
/-- slices.SortFunc by name, of a row of one's own. -/
theorem propSort_any (d : List PItem) (b c base : Nat) (w : World) (hn : d.length ≤ 1048576) (ho : w.ownsRow base 65 6 (.slice (some ⟨b, 0, none⟩) d.length c) d.length (d.flatMap encI)) :
    Calls Tryz.prog 113 #[.slice (some ⟨b, 0, none⟩) d.length c, .func (Fn.func 114) #[] #[]] w fun e w' =>
      e = .returned (.tuple #[]) ∧ ∃ d' : Array PItem, Go.Sort.PermIn 0 d.length d.toArray d' ∧ Go.Sort.SortedIn (ltOf cfI) 0 d.length d' ∧ w'.ownsRow base 65 6 (.slice (some ⟨b, 0, none⟩) d.length c) d.length (d'.toList.flatMap encI) ∧ w.grownBy w' (some b) := by
  have eg : ∀ args w, (callFunc 114 args).run Tryz.prog w = .ok (.enter 114 args) w := enters_of Tryz.func114 (by kernel_rfl) rfl
  have h := AnyQ.slices_SortFunc Tryz.sortProp 6 aggPr szPr encI encI_len encI_one cfI swoI 114 #[] b 0 c d.toArray w eg (cmpLaysP b 0 _ w) (own_holds ho) (ho.lt b rfl).2 (by simp; omega)
  refine h.mono ?_
  rintro e w' ⟨rfl, d', n, os, hp, hs, rfl⟩
  have hsz : d'.size = d.length := by simpa using hp.1
  have h2 := own_sorted (d' := d') ho hsz n os
  refine ⟨rfl, d', by simpa using hp, by simpa using hs, h2.1, h2.2⟩
end Go.Proofs.YtggnocajpnmemaaGreatDoor
namespace Go.Proofs.YtggnocajpnmemaaGreatDoor
open Go.RowKit Go.Shelf

set_option maxRecDepth 100000 in
set_option maxHeartbeats 4000000 in
theorem propIndex_none (f : Value) (w : World) :
    Calls Tryz.prog 159 #[.slice none 0 0, f] w fun e w' => e = .returned (.int .i64 (-1)) ∧ Below w.heap.size w w' := by
  go_enter Tryz.func159, Tryz.ntmps159
  go_wp2_with fail
  go_loopw [8] (fun iv wx => ∃ j : Nat, iv = .int .i64 j ∧ j = 0 ∧ Below w.heap.size w wx) (fun iv _ => 0 - (intOf iv).toNat)
  case atStart => exact ⟨0, rfl, rfl, Below.refl _ _⟩
  case round =>
    obtain ⟨j, rfl, hj, hb⟩ := hrel
    subst hj
    go_wp2_with fail
    go_ret
    exact ⟨rfl, hb⟩
set_option maxRecDepth 100000 in
set_option maxHeartbeats 4000000 in
theorem propDelete_none (f : Value) (w : World) :
    Calls Tryz.prog 110 #[.slice none 0 0, f] w fun e w' => e = .returned (.slice none 0 0) ∧ Below w.heap.size w w' := by
  have HC := Lib.hid (propIndex_none f w)
  go_enter Tryz.func110, Tryz.ntmps110
  go_wp2_with fail
  refine HC.out.mono ?_
  rintro e1 w1 ⟨rfl, hb1⟩
  go_wp2_with fail
  go_ret
  exact ⟨rfl, hb1⟩
/-- A list of one's own, its row not among the values' blocks, behind a start. -/
structure OwnAt (w : World) (base : Nat) (L : List PV) (v : Value) (wx : World) : Prop where
  bel : Below base w wx
  le : base ≤ wx.heap.size
  rep : ∃ (F : Nat → Prop) (xs : List Value), wx.ownsRow base 65 6 v L.length xs ∧ PRep wx F L xs ∧ (∀ k, F k → k < wx.heap.size) ∧ ∀ g, v.ownBlock = some g → ¬ F g
theorem OwnAt.pr {w W wx : World} {base : Nat} {L : List PV} {v : Value} (h : OwnAt W base L v wx) (hb : Below w.heap.size w wx) (hw : w.heap.size ≤ base) : PrOwn w w.heap.size L v wx := by
  obtain ⟨F, xs, h1, h2, h3, h4⟩ := h.rep
  exact ⟨hb, F, xs, own_base h1 (fun g hg => by have := (h1.lt g hg).1; omega), h2, fun k hk => ⟨h3 k hk, by omega⟩, h4⟩
theorem PrOwn.at {w wx : World} {L : List PV} {v : Value} {B0 : Nat} (h : PrOwn w B0 L v wx) : OwnAt w w.heap.size L v wx := by
  obtain ⟨F, xs, h1, h2, h3, h4⟩ := h.rep
  exact ⟨h.bel, h.bel.size, F, xs, h1, h2, fun k hk => (h3 k hk).1, h4⟩
/-- slices.DeleteFunc by a name, of any list of one's own. -/
theorem deleted_any (L : List PV) (q : ByteArray) (v : Value) (bx base : Nat) (W w : World) (hn : L.length ≤ 1048576) (ho : OwnAt W base L v w) (hbx : bx < base) (hq : w.cell? ⟨bx, 0, none⟩ = some (.string q)) :
    Calls Tryz.prog 110 #[v, .func (Fn.func 112) #[] #[.pointer (some ⟨bx, 0, none⟩)]] w fun e w' =>
      ∃ v', e = .returned v' ∧ OwnAt W base (woL L q) v' w' := by
  have hle := ho.le
  have hbel := ho.bel
  obtain ⟨F, xs, h1, h2, h3, h4⟩ := ho.rep
  rcases h1.2 with ⟨e1, e2⟩ | ⟨g, c, cur, e1, hb, hg, hnc, hcm, hcs, htake⟩
  · have hL : L = [] := List.eq_nil_of_length_eq_zero e2
    subst hL e1
    refine (propDelete_none _ w).mono ?_
    rintro e w' ⟨rfl, hb⟩
    refine ⟨_, rfl, hbel.trans (hb.mono hle), Nat.le_trans hle hb.size, F, xs, own_kept h1 (fun k hk => by simp [Value.ownBlock] at hk), h2.keep (fun k hk => hb.block k (h3 k hk)) (fun _ h => h), fun k hk => Nat.lt_of_lt_of_le (h3 k hk) hb.size, fun g hg => by simp [Value.ownBlock] at hg⟩
  · subst e1
    refine (propDelete_any L xs F q bx g c base w hn h1 h2 (fun k hk => ⟨h3 k hk, fun e => h4 g rfl (e ▸ hk)⟩) (by omega) (by omega) hq).mono ?_
    rintro e w' ⟨rfl, hD⟩
    obtain ⟨ys, g1, g2⟩ := hD.rep
    refine ⟨_, rfl, ⟨hD.os.trans hbel.os, hD.tape.trans hbel.tape, hD.output.trans hbel.output, Nat.le_trans hbel.size hD.size, fun k hk => (hD.block k (by omega) (by omega)).trans (hbel.block k hk)⟩, Nat.le_trans hle hD.size, F, ys, g1, g2, fun k hk => Nat.lt_of_lt_of_le (h3 k hk) hD.size, fun g' hg' => ?_⟩
    simp only [Value.ownBlock, Option.some.injEq] at hg'
    subst hg'
    exact h4 _ rfl
/-- .. appended to. -/
theorem OwnAt.push {W w w4 : World} {base : Nat} {L : List PV} {v : Value} (h : OwnAt W base L v w) {o : Obj} {F : Nat → Prop} {xs : List Value} {nm sx : ByteArray} {kx ix tx : Int} {lx : List V} {A' : Option Addr} {c' gg cap : Nat}
    (h1 : w.ownsRow base 65 6 v L.length xs) (h2 : PRep w F L xs) (h3 : ∀ k, F k → k < w.heap.size) (h4 : ∀ g, v.ownBlock = some g → ¬ F g)
    (hs : SlF w (fun b => b < base) lx (.slice A' lx.length c')) (hz : nm.size ≤ 1048576 ∧ sx.size ≤ 1048576)
    (ho4 : w4.ownsRow base 65 6 (.slice (some ⟨gg, 0, none⟩) (L.length + 1) cap) (L.length + 1) (xs ++ [.string nm, .int .i64 kx, .int .i64 ix, .int .i64 tx, .string sx, .slice A' lx.length c']))
    (hg : (w.alloc o).grownBy w4 v.ownBlock) (hat : v.ownBlock = some gg ∨ gg = w.heap.size + 1) : OwnAt W base (L ++ [⟨nm, .mk kx ix tx sx lx⟩]) (.slice (some ⟨gg, 0, none⟩) (L.length + 1) cap) w4 := by
  have hle := h.le
  have hbel := h.bel
  have hsz4 := hg.size
  simp only [World.size_alloc] at hsz4
  have hlt : ∀ g, v.ownBlock = some g → base ≤ g ∧ g < w.heap.size := fun g hg => h1.lt g hg
  have hk4 : ∀ b, b < w.heap.size → v.ownBlock ≠ some b → w4.heap[b]? = w.heap[b]? := fun b hb hne => by
    rw [hg.block b (by simp; omega) (fun e => hne e.symm)]
    exact Below.heap_alloc _ _ _ hb
  refine ⟨(hbel.alloc hle o).grown hg (by simp; omega) (fun k hk => (hlt k hk).1), by omega, fun b => F b ∨ b < base, _, ?_, PRep.snoc hz.1 hz.2 (hs.keep (fun b hb => hk4 b (by omega) (fun e => ?_)) (fun b hb => .inr hb)) (h2.keep (fun b hb => hk4 b (h3 b hb) (fun e => h4 b e hb)) (fun b hb => .inl hb)), fun k hk => ?_, fun g hg2 => ?_⟩
  · rw [List.length_append]
    exact ho4
  · have := hlt b e
    omega
  · rcases hk with hk | hk
    · have := h3 k hk; omega
    · omega
  · simp only [Value.ownBlock, Option.some.injEq] at hg2
    subst hg2
    rcases hat with e | e
    · rintro (h5 | h5)
      · exact h4 _ e h5
      · have := hlt _ e; omega
    · rintro (h5 | h5)
      · have := h3 _ h5; omega
      · omega
/-- slices.SortFunc by name: a list in order with a property put to its end. -/
theorem sorted_any (m : List PV) (x : PV) (r : Nat) (v : Value) (base : Nat) (W w : World) (hn : (m ++ [x]).length ≤ 1048576) (ho : OwnAt W base (m ++ [x]) v w) (hi : Asc (insL m r x)) :
    Calls Tryz.prog 113 #[v, .func (Fn.func 114) #[] #[]] w fun e w' => e = .returned (.tuple #[]) ∧ OwnAt W base (insL m r x) v w' := by
  have hle := ho.le
  have hbel := ho.bel
  obtain ⟨F, xs, h1, h2, h3, h4⟩ := ho.rep
  obtain ⟨d, hd, hxs, hgood⟩ := h2.items
  subst hxs
  have hdl : d.length = (m ++ [x]).length := by rw [← hd, List.length_map]
  rcases h1.2 with ⟨e1, e2⟩ | ⟨g, c, cur, e1, hb, hg, hnc, hcm, hcs, htake⟩
  · simp at e2
  · subst e1
    rw [← hdl] at h1 hn ⊢
    refine (propSort_any d g c base w hn h1).mono ?_
    rintro e w' ⟨rfl, d', hp, hs, g1, g2⟩
    obtain ⟨s1, s2, s3⟩ := sorted_items hd hi hp hs
    have hlen : (insL m r x).length = d.length := by rw [← s2, List.length_map]; simpa using s1
    refine ⟨rfl, ⟨g2.os.trans hbel.os, g2.tape.trans hbel.tape, g2.output.trans hbel.output, Nat.le_trans hbel.size g2.size, fun k hk => (g2.block k (by omega) (by simp; omega)).trans (hbel.block k hk)⟩, Nat.le_trans hle g2.size, F, _, by rw [hlen]; exact g1, ?_, fun k hk => Nat.lt_of_lt_of_le (h3 k hk) g2.size, h4⟩
    rw [← s2]
    refine rep_of_items _ (fun y hy => ?_)
    have hy := hgood y (s3.subset hy)
    obtain ⟨⟨nm, ⟨k, i, t, s, l⟩⟩, A, c⟩ := y
    exact ⟨hy.1, hy.2.1, hy.2.2.keep (fun b hb => g2.block b (h3 b hb) (fun e => h4 b e.symm hb)) (fun _ h => h)⟩
end Go.Proofs.YtggnocajpnmemaaGreatDoor
