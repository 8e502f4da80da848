/- The reference's with: its parts, the list's blocks named by a predicate. (Made by gen_mgz.py.) The reference's with, the list's blocks named by a predicate. (Made by gen_mgza.py.) The reference's MergeOf. (Made by gen_mgzc.py.) -/
import Derived.Test.YtggnocajpnmemaaGreatDoorMfX
import Derived.Test.YtggnocajpnmemaaGreatDoorPvX
namespace Go.Proofs.YtggnocajpnmemaaGreatDoor
open Go.RowKit Go.Shelf

/-- A list of one's own whose values' blocks are all in G. -/
structure OwnG (G : Nat → Prop) (W : World) (base : Nat) (L : List PV) (v : Value) (wx : World) : Prop where
  bel : Below base W wx
  le : base ≤ wx.heap.size
  rep : ∃ (F : Nat → Prop) (xs : List Value), wx.ownsRow base 65 6 v L.length xs ∧ PRep wx F L xs ∧ (∀ k, F k → k < wx.heap.size) ∧ (∀ g, v.ownBlock = some g → ¬ F g) ∧ ∀ k, F k → G k
set_option maxRecDepth 100000 in
set_option maxHeartbeats 4000000 in
theorem propCloneF_at (F G : Nat → Prop) (l : List PV) (ad : Addr) (c : Nat) (w : World) (news : List Value) (h1 : l.length ≤ 1048576) (h2 : l.length ≤ c) (g1 : news.length = l.length * 6) (gr : PRep w F l news) (hF : ∀ k, F k → k < w.heap.size) (hG : ∀ k, F k → G k)
    (g2 : ∀ j u, news[j]? = some u → (w.alloc (.cells #[] 65)).cell? (ad.add j) = some u) (g3 : ∀ u ∈ news, u.oneCell' = true) :
    Calls Tryz.prog 111 #[.slice (some ad) l.length c] w fun e w' => ∃ v, e = .returned v ∧ OwnG G w w.heap.size l v w' := by
  obtain ⟨i0, hi, hz0, hz1, hz2⟩ := info_parts infoPr
  obtain ⟨n, hn⟩ : ∃ n, n = l.length := ⟨_, rfl⟩
  have HN := Lib.hid hn
  rw [← hn] at g1 h1 h2 ⊢
  have HNEWS := Lib.hid g2
  have HOWN : Hid ((w.alloc (.cells #[] 65)).ownsRow w.heap.size 65 6 (.slice (some ⟨w.heap.size, 0, none⟩) 0 0) 0 []) := Lib.hid ⟨rfl, .inr ⟨w.heap.size, 0, #[], rfl, Nat.le_refl _, heap_alloc_new w _, Nat.le_refl _, Nat.zero_le _, rfl, rfl⟩⟩
  have HG3 := Lib.hid g3
  have HGR := Lib.hid gr
  have hop : ∀ W : World, (binOp .eql 31 (.slice (some ad) n c) (.slice none 0 0)).run Tryz.prog W = .ok (.bool false) W := fun _ => rfl
  clear g2 g3 gr hn
  go_enter Tryz.func111, Tryz.ntmps111
  go_wp2_with (at_builtin; refine wpList_append_own _ rfl _ _ 31 rfl w.heap.size 65 i0 _ 6 80 Tryz.underlying31 hi hz0 hz1 hz2 rfl (by omega) _ 0 [] rfl HOWN.out ad n c news rfl g1 HNEWS.out HG3.out (by unfold maxLen; omega) (by omega) (by simp) ?_)
  intro v' w4 hown4 hgrow4 _
  have hbel4 : Below w.heap.size w w4 := ((Below.refl _ w).alloc (Nat.le_refl _) _).grown hgrow4 (by simp) (fun k hk => by simp [Value.ownBlock] at hk; omega)
  obtain ⟨A', c', rfl⟩ := own_shape hown4

  have HX : Hid (OwnG G w w.heap.size l (.slice A' n c') w4) := Lib.hid ⟨hbel4, hbel4.size, F, news, by rw [← HN.out]; simpa using hown4, HGR.out.keep (fun k hk => hbel4.block k (hF k hk)) (fun _ h => h), fun k hk => by have := hbel4.size; have := hF k hk; omega, fun g hg h => by have := (hown4.lt g hg).1; have := hF g h; omega, hG⟩
  clear hown4 hgrow4 hbel4 HOWN HNEWS
  go_wp2_with fail
  go_ret
  exact ⟨_, rfl, HX.out⟩
theorem propCloneG_any {G : Nat → Prop} (L : List PV) (v : Value) (base : Nat) (W w : World) (hn : L.length ≤ 1048576) (ho : OwnG G W base L v w) :
    Calls Tryz.prog 111 #[v] w fun e w' => ∃ v', e = .returned v' ∧ OwnG G w w.heap.size L v' w' := by
  obtain ⟨F, xs, h1, h2, h3, h4, h5⟩ := ho.rep
  rcases h1.2 with ⟨rfl, e2⟩ | ⟨g, c, cur, rfl, hb, hg, hnc, hcm, hcs, htake⟩
  · obtain rfl : L = [] := List.eq_nil_of_length_eq_zero e2
    refine (propClone_nil 0 w).mono ?_
    rintro e w' ⟨v', rfl, hP⟩
    obtain ⟨F', xs', k1, k2, _⟩ := hP.rep
    exact ⟨v', rfl, hP.bel, hP.bel.size, fun _ => False, xs', k1, k2, fun _ h => h.elim, fun _ _ h => h, fun _ h => h.elim⟩
  · obtain ⟨d, hd, hxs, hgood⟩ := h2.items
    refine propCloneF_at F G L ⟨g, 0, none⟩ c w xs hn hnc h1.1 h2 h3 h5 (fun j u hu => ?_) (fun u hu => ?_)
    · exact (h1.alloc _).cells rfl j u hu
    · rw [hxs] at hu
      obtain ⟨x, _, hx⟩ := List.mem_flatMap.1 hu
      exact encI_one x u hx
/-- slices.DeleteFunc by a name, of any list of one's own. -/
theorem deletedG_any {G : Nat → Prop} (L : List PV) (q : ByteArray) (v : Value) (bx base : Nat) (W w : World) (hn : L.length ≤ 1048576) (ho : OwnG G W base L v w) (hbx : bx < base) (hq : w.cell? ⟨bx, 0, none⟩ = some (.string q)) :
    Calls Tryz.prog 110 #[v, .func (Fn.func 112) #[] #[.pointer (some ⟨bx, 0, none⟩)]] w fun e w' =>
      ∃ v', e = .returned v' ∧ OwnG G W base (woL L q) v' w' := by
  have hle := ho.le
  have hbel := ho.bel
  obtain ⟨F, xs, h1, h2, h3, h4, h5⟩ := ho.rep
  rcases h1.2 with ⟨e1, e2⟩ | ⟨g, c, cur, e1, hb, hg, hnc, hcm, hcs, htake⟩
  · have hL : L = [] := List.eq_nil_of_length_eq_zero e2
    subst hL e1
    refine (propDelete_none _ w).mono ?_
    rintro e w' ⟨rfl, hb⟩
    refine ⟨_, rfl, hbel.trans (hb.mono hle), Nat.le_trans hle hb.size, F, xs, own_kept h1 (fun k hk => by simp [Value.ownBlock] at hk), h2.keep (fun k hk => hb.block k (h3 k hk)) (fun _ h => h), fun k hk => Nat.lt_of_lt_of_le (h3 k hk) hb.size, fun g hg => by simp [Value.ownBlock] at hg, h5⟩
  · subst e1
    refine (propDelete_any L xs F q bx g c base w hn h1 h2 (fun k hk => ⟨h3 k hk, fun e => h4 g rfl (e ▸ hk)⟩) (by omega) (by omega) hq).mono ?_
    rintro e w' ⟨rfl, hD⟩
    obtain ⟨ys, g1, g2⟩ := hD.rep
    refine ⟨_, rfl, ⟨hD.os.trans hbel.os, hD.tape.trans hbel.tape, hD.output.trans hbel.output, Nat.le_trans hbel.size hD.size, fun k hk => (hD.block k (by omega) (by omega)).trans (hbel.block k hk)⟩, Nat.le_trans hle hD.size, F, ys, g1, g2, fun k hk => Nat.lt_of_lt_of_le (h3 k hk) hD.size, fun g' hg' => ?_, h5⟩
    simp only [Value.ownBlock, Option.some.injEq] at hg'
    subst hg'
    exact h4 _ rfl
/-- .. appended to. -/
theorem OwnG.push {G : Nat → Prop} {W w w4 : World} {base : Nat} {L : List PV} {v : Value} (h : OwnG G W base L v w) {o : Obj} {F P : Nat → Prop} {xs : List Value} {nm sx : ByteArray} {kx ix tx : Int} {lx : List V} {A' : Option Addr} {c' gg cap : Nat}
    (h1 : w.ownsRow base 65 6 v L.length xs) (h2 : PRep w F L xs) (h3 : ∀ k, F k → k < w.heap.size) (h4 : ∀ g, v.ownBlock = some g → ¬ F g) (h5 : ∀ k, F k → G k)
    (hs : SlF w P lx (.slice A' lx.length c')) (hz : nm.size ≤ 1048576 ∧ sx.size ≤ 1048576) (hP : ∀ k, P k → k < base ∧ G k)
    (ho4 : w4.ownsRow base 65 6 (.slice (some ⟨gg, 0, none⟩) (L.length + 1) cap) (L.length + 1) (xs ++ [.string nm, .int .i64 kx, .int .i64 ix, .int .i64 tx, .string sx, .slice A' lx.length c']))
    (hg : (w.alloc o).grownBy w4 v.ownBlock) (hat : v.ownBlock = some gg ∨ gg = w.heap.size + 1) : OwnG G W base (L ++ [⟨nm, .mk kx ix tx sx lx⟩]) (.slice (some ⟨gg, 0, none⟩) (L.length + 1) cap) w4 := by
  have hle := h.le
  have hbel := h.bel
  have hsz4 := hg.size
  simp only [World.size_alloc] at hsz4
  have hlt : ∀ g, v.ownBlock = some g → base ≤ g ∧ g < w.heap.size := fun g hg => h1.lt g hg
  have hk4 : ∀ b, b < w.heap.size → v.ownBlock ≠ some b → w4.heap[b]? = w.heap[b]? := fun b hb hne => by
    rw [hg.block b (by simp; omega) (fun e => hne e.symm)]
    exact Below.heap_alloc _ _ _ hb
  refine ⟨(hbel.alloc hle o).grown hg (by simp; omega) (fun k hk => (hlt k hk).1), by omega, fun b => F b ∨ P b, _, ?_, PRep.snoc hz.1 hz.2 (hs.keep (fun b hb => hk4 b (by have := (hP b hb).1; omega) (fun e => by have := hlt b e; have := (hP b hb).1; omega)) (fun b hb => .inr hb)) (h2.keep (fun b hb => hk4 b (h3 b hb) (fun e => h4 b e hb)) (fun b hb => .inl hb)), fun k hk => ?_, fun g hg2 => ?_, fun k hk => hk.elim (h5 k) (fun h => (hP k h).2)⟩
  · rw [List.length_append]
    exact ho4
  · rcases hk with hk | hk
    · have := h3 k hk; omega
    · have := (hP k hk).1; omega
  · simp only [Value.ownBlock, Option.some.injEq] at hg2
    subst hg2
    rcases hat with e | e
    · rintro (h6 | h6)
      · exact h4 _ e h6
      · have := hlt _ e; have := (hP _ h6).1; omega
    · rintro (h6 | h6)
      · have := h3 _ h6; omega
      · have := (hP _ h6).1; omega
/-- slices.SortFunc by name: a list in order with a property put to its end. -/
theorem sortedG_any {G : Nat → Prop} (m : List PV) (x : PV) (r : Nat) (v : Value) (base : Nat) (W w : World) (hn : (m ++ [x]).length ≤ 1048576) (ho : OwnG G W base (m ++ [x]) v w) (hi : Asc (insL m r x)) :
    Calls Tryz.prog 113 #[v, .func (Fn.func 114) #[] #[]] w fun e w' => e = .returned (.tuple #[]) ∧ OwnG G W base (insL m r x) v w' := by
  have hle := ho.le
  have hbel := ho.bel
  obtain ⟨F, xs, h1, h2, h3, h4, h5⟩ := ho.rep
  obtain ⟨d, hd, hxs, hgood⟩ := h2.items
  subst hxs
  have hdl : d.length = (m ++ [x]).length := by rw [← hd, List.length_map]
  rcases h1.2 with ⟨e1, e2⟩ | ⟨g, c, cur, e1, hb, hg, hnc, hcm, hcs, htake⟩
  · simp at e2
  · subst e1
    rw [← hdl] at h1 hn ⊢
    refine (propSort_any d g c base w hn h1).mono ?_
    rintro e w' ⟨rfl, d', hp, hs, g1, g2⟩
    obtain ⟨s1, s2, s3⟩ := sorted_items hd hi hp hs
    have hlen : (insL m r x).length = d.length := by rw [← s2, List.length_map]; simpa using s1
    refine ⟨rfl, ⟨g2.os.trans hbel.os, g2.tape.trans hbel.tape, g2.output.trans hbel.output, Nat.le_trans hbel.size g2.size, fun k hk => (g2.block k (by omega) (by simp; omega)).trans (hbel.block k hk)⟩, Nat.le_trans hle g2.size, F, _, by rw [hlen]; exact g1, ?_, fun k hk => Nat.lt_of_lt_of_le (h3 k hk) g2.size, h4, h5⟩
    rw [← s2]
    refine rep_of_items _ (fun y hy => ?_)
    have hy := hgood y (s3.subset hy)
    obtain ⟨⟨nm, ⟨k, i, t, s, l⟩⟩, A, c⟩ := y
    exact ⟨hy.1, hy.2.1, hy.2.2.keep (fun b hb => g2.block b (h3 b hb) (fun e => h4 b e.symm hb)) (fun _ h => h)⟩
end Go.Proofs.YtggnocajpnmemaaGreatDoor
namespace Go.Proofs.YtggnocajpnmemaaGreatDoor
open Go.RowKit Go.Shelf

theorem OwnG.later {G : Nat → Prop} {W w w' : World} {base : Nat} {L : List PV} {v : Value} (h : OwnG G W base L v w) (hb : Below w.heap.size w w') : OwnG G W base L v w' := by
  obtain ⟨F, xs, h1, h2, h3, h4, h5⟩ := h.rep
  exact ⟨h.bel.trans (hb.mono h.le), Nat.le_trans h.le hb.size, F, xs, own_kept h1 (fun g hg => hb.block g (h1.lt g hg).2), h2.keep (fun k hk => hb.block k (h3 k hk)) (fun _ h => h), fun k hk => Nat.lt_of_lt_of_le (h3 k hk) hb.size, h4, h5⟩
theorem OwnG.lower {G : Nat → Prop} {w W wx : World} {base : Nat} {L : List PV} {v : Value} (h : OwnG G W base L v wx) (hb : Below w.heap.size w wx) (hw : w.heap.size ≤ base) : OwnG G w w.heap.size L v wx := by
  obtain ⟨F, xs, h1, h2, h3, h4, h5⟩ := h.rep
  exact ⟨hb, hb.size, F, xs, own_base h1 (fun g hg => by have := (h1.lt g hg).1; omega), h2, h3, h4, h5⟩
set_option maxRecDepth 100000 in
set_option maxHeartbeats 8000000 in
theorem withG_any {G P : Nat → Prop} (base0 : Nat) (Wx : World) (l : List PV) (q : ByteArray) (A : Option Addr) (c : Nat) (k i t : Int) (s : ByteArray) (lx : List V) (A2 : Option Addr) (c2 : Nat) (r : Nat) (w : World)
    (hl : OwnG G Wx base0 l (.slice A l.length c) w) (hn : l.length ≤ 1000) (hv : SlF w P lx (.slice A2 lx.length c2)) (hPG : ∀ k, P k → k < w.heap.size ∧ G k) (hz : q.size ≤ 1048576 ∧ s.size ≤ 1048576) (hi : k ≠ 0 → Asc (insL (woL l q) r ⟨q, .mk k i t s lx⟩)) :
    Calls Tryz.prog 49 #[.slice A l.length c, .string q, .agg #[.int .i64 k, .int .i64 i, .int .i64 t, .string s, .slice A2 lx.length c2]] w fun e w' => ∃ v, e = .returned v ∧ OwnG G w w.heap.size (if k = 0 then woL l q else insL (woL l q) r ⟨q, .mk k i t s lx⟩) v w' := by
  have HCL := Lib.hid (fun W (hW : Below w.heap.size w W) => propCloneG_any l (.slice A l.length c) base0 Wx W (by omega) (hl.later hW))
  have HPG := Lib.hid hPG
  obtain ⟨i0, hi0, hz0, hz1, hz2⟩ := info_parts infoPr
  have HI := Lib.hid hi
  have HV := Lib.hid hv
  have HNL := Lib.hid hn
  obtain ⟨m, hm⟩ : ∃ m, m = lx.length := ⟨_, rfl⟩
  have HM := Lib.hid hm
  rw [← hm]
  have HZ := Lib.hid hz
  generalize l.length = n at HCL ⊢
  clear hl hi hv hn hm hPG
  go_enter Tryz.func49, Tryz.ntmps49
  go_wp2_with fail
  obtain ⟨W0, hW0⟩ : ∃ W0, W0 = (w.alloc (.cells #[.string q] 9)).alloc (.cells #[.int .i64 k, .int .i64 i, .int .i64 t, .string s, .slice A2 m c2] 24) := ⟨_, rfl⟩
  have hb0 : Below w.heap.size w W0 := by rw [hW0]; exact ((Below.refl _ w).alloc (Nat.le_refl _) _).alloc (by simp) _
  have hs0 : W0.heap.size = w.heap.size + 2 := by rw [hW0]; simp
  have hn0 : W0.heap[w.heap.size]? = some (.cells #[.string q] 9 (0, 0)) := by
    rw [hW0, Below.heap_alloc _ _ _ (by simp)]
    exact heap_alloc_new w _
  have hv0 : W0.heap[w.heap.size + 1]? = some (.cells #[.int .i64 k, .int .i64 i, .int .i64 t, .string s, .slice A2 m c2] 24 (0, 0)) := by
    rw [hW0]
    have := heap_alloc_new (w.alloc (.cells #[.string q] 9)) (.cells #[.int .i64 k, .int .i64 i, .int .i64 t, .string s, .slice A2 m c2] 24)
    simpa using this
  rw [← hW0]
  have HB0 := Lib.hid hb0
  have HN0 := Lib.hid hn0
  have HV0 := Lib.hid hv0
  clear hW0 hn0 hv0
  refine (HCL.out W0 hb0).mono ?_
  rintro e1 w1 ⟨v1, rfl, hP⟩
  have HO1 : Hid (OwnG G W0 (w.heap.size + 2) l v1 w1) := Lib.hid (by have := hP; rwa [hs0] at this)
  have hq1 : w1.cell? ⟨w.heap.size, 0, none⟩ = some (.string q) := cell_of_row w1 _ 0 _ _ (0, 0) ((HO1.out.bel.block _ (by omega)).trans HN0.out)
  have HD := Lib.hid (deletedG_any l q v1 w.heap.size (w.heap.size + 2) W0 w1 (by have := HNL.out; omega) HO1.out (by omega) hq1)
  clear hP hb0
  go_wp2_with fail
  refine HD.out.mono ?_
  rintro e2 w2 ⟨v2, rfl, hO⟩
  have hle := hO.le
  have hnm2 : w2.heap[w.heap.size]? = some (.cells #[.string q] 9 (0, 0)) := (hO.bel.block _ (by omega)).trans HN0.out
  have hvv2 : w2.heap[w.heap.size + 1]? = some (.cells #[.int .i64 k, .int .i64 i, .int .i64 t, .string s, .slice A2 m c2] 24 (0, 0)) := (hO.bel.block _ (by omega)).trans HV0.out
  have d0 := cell_of_row w2 _ 0 _ _ (0, 0) hvv2
  have d1 := cell_of_row w2 _ 1 _ _ (0, 0) hvv2
  have d2 := cell_of_row w2 _ 2 _ _ (0, 0) hvv2
  have d3 := cell_of_row w2 _ 3 _ _ (0, 0) hvv2
  have d4 := cell_of_row w2 _ 4 _ _ (0, 0) hvv2
  have dn := cell_of_row w2 _ 0 _ _ (0, 0) hnm2
  have hwb : Below w.heap.size w w2 := HB0.out.trans (hO.bel.mono (by omega))
  have hwl := woL_len l q
  have HO := Lib.hid hO
  have HWB := Lib.hid hwb
  obtain ⟨F, xs, h1, h2, h3, h4, h5⟩ := hO.rep
  obtain ⟨A0, c0, rfl⟩ := own_shape h1
  have H1 := Lib.hid h1
  have H2 := Lib.hid h2
  have H3 := Lib.hid h3
  have H4 := Lib.hid h4
  have H5 := Lib.hid h5
  by_cases hk : k = 0
  · subst hk
    have HX : Hid (OwnG G w w.heap.size (woL l q) (.slice A0 (woL l q).length c0) w2) := Lib.hid (HO.out.lower HWB.out (by omega))
    generalize (woL l q).length = fl at HX ⊢
    clear hO h1 h2 h3 h4 h5 hnm2 hvv2 hwb HO H1 H2 H3 H4
    go_wp2_with fail
    go_ret
    exact ⟨_, rfl, HX.out⟩
  · have hl2 : (woL l q).length ≤ 1000 := Nat.le_trans hwl HNL.out
    have HS : Hid (SlF w2 P lx (.slice A2 lx.length c2)) := Lib.hid (HV.out.keep (fun b hb => HWB.out.block b (HPG.out b hb).1) (fun _ h => h))
    have HFL : Hid ((woL l q).length = (woL l q).length) := Lib.hid rfl
    generalize hfl : (woL l q).length = fl at H1 H4 hl2 ⊢
    have HF2 := Lib.hid hfl
    clear hO h1 h2 h3 h4 h5 hnm2 hvv2 hwb hfl hwl
    go_wp2_with (at_builtin; refine wpList_append_lies _ rfl _ _ 31 rfl (w.heap.size + 2) 65 i0 _ 6 80 Tryz.underlying31 hi0 hz0 hz1 hz2 rfl (by omega) (.slice A0 fl c0) fl xs rfl (H1.out.alloc _) ⟨w2.heap.size, 0, none⟩ 1 1 [.string q, .int .i64 k, .int .i64 i, .int .i64 t, .string s, .slice A2 m c2] rfl rfl (six_news w2 _ _ _ _ _ _ _) (by simp [Value.oneCell']) (by omega) (by unfold maxLen; omega) (by omega) (by simp; omega) (w2.heap.size + 1) (by simp) ?_)
    intro gg cap w4 ho4 hg4 hat4 hlt4
    have HP4 : Hid (OwnG G W0 (w.heap.size + 2) (woL l q ++ [⟨q, .mk k i t s lx⟩]) (.slice (some ⟨gg, 0, none⟩) (fl + 1) cap) w4) := Lib.hid (by
      have hf := HF2.out
      subst hf
      have ho5 := ho4
      rw [HM.out] at ho5
      exact HO.out.push H1.out H2.out H3.out H4.out H5.out HS.out HZ.out (fun k hk => ⟨by have := (HPG.out k hk).1; omega, (HPG.out k hk).2⟩) ho5 hg4 hat4)
    have HSO := Lib.hid (sortedG_any (woL l q) ⟨q, .mk k i t s lx⟩ r _ (w.heap.size + 2) W0 w4 (by rw [List.length_append, HF2.out]; simp; omega) HP4.out (HI.out hk))
    clear ho4 hg4 hat4
    go_wp2_with fail
    refine HSO.out.mono ?_
    rintro e5 w5 ⟨rfl, hO5⟩
    have HX : Hid (OwnG G w w.heap.size (insL (woL l q) r ⟨q, .mk k i t s lx⟩) (.slice (some ⟨gg, 0, none⟩) (fl + 1) cap) w5) := Lib.hid (hO5.lower (HB0.out.trans (hO5.bel.mono (by omega))) (by omega))
    clear hO5
    go_wp2_with fail
    go_ret
    exact ⟨_, rfl, HX.out⟩
end Go.Proofs.YtggnocajpnmemaaGreatDoor
namespace Go.Proofs.YtggnocajpnmemaaGreatDoor
open Go.RowKit Go.Shelf Go.Sort

theorem OwnS.later {W w w' : World} {base : Nat} {L : List (List UInt8)} {v : Value} (h : OwnS W base L v w) (hb : Below w.heap.size w w') : OwnS W base L v w' :=
  ⟨h.bel.trans (hb.mono h.le), Nat.le_trans h.le hb.size, own_kept h.own (fun g hg => hb.block g (h.own.lt g hg).2)⟩
/-- The names so far, and what has been found right. -/
structure ThreeOf (W0 : World) (eo ea eb : Int) (Ls : List (List PV)) (j : Nat) (ov : Value) (wx : World) : Prop where
  own : OwnS W0 W0.heap.size (allNames (Ls.take j)) ov wx
  o : 0 < j → eo = 0
  a : 1 < j → ea = 0
  b : 2 < j → eb = 0
theorem getOf_valF {B : Nat} {l : List PV} {q : ByteArray} {w w' : World} {e : Ending}
    (h : ((∃ (j : Nat) (hj : j < l.length) (g : Value), (l[j].nm.toList == q.toList) = true ∧ (∀ k (hk : k < l.length), k < j → (l[k].nm.toList == q.toList) = false) ∧ VAt w B l[j].val g ∧ e = .returned (.tuple #[g, .bool true])) ∨
        ((∀ k (hk : k < l.length), (l[k].nm.toList == q.toList) = false) ∧ e = .returned (.tuple #[.agg #[.int .i64 0, .int .i64 0, .int .i64 0, .string ⟨#[]⟩, .slice none 0 0], .bool false]))) ∧ Below w.heap.size w w') (hB : B ≤ w.heap.size) : ValF B (valOf l q) w e w' := by
  obtain ⟨h, hb⟩ := h
  have hsz := hb.size
  rcases h with ⟨j, hj, g, hy, hno, hv, rfl⟩ | ⟨hno, rfl⟩
  · refine ⟨g, true, rfl, ?_, hb⟩
    unfold valOf
    rw [getV_at hj hy hno]
    show VF _ _ l[j].val g
    generalize l[j].val = x at hv
    obtain ⟨k, i, t, s, y⟩ := x
    obtain ⟨hz, sl, rfl, hs⟩ := hv
    exact ⟨hz, sl, rfl, (hs.toF (F := fun k => k < B) (fun _ h => h)).keep (fun b hb' => hb.block b (by omega)) (fun b hb' => ⟨.inl hb', by omega⟩)⟩
  · refine ⟨_, false, rfl, ?_, hb⟩
    unfold valOf
    rw [getV_none hno]
    exact zeroVF _ _
theorem MgSt.ownG {W wx : World} {M : List PV} {T : List (List UInt8)} {vm vt : Value} (h : MgSt W M T vm vt wx) : OwnG (fun k => ∀ g, vt.ownBlock = some g → k ≠ g) W W.heap.size M vm wx := by
  obtain ⟨F, xs, h1, h2, h3, h4, h5⟩ := h.rep
  exact ⟨h.bel, h.bel.size, F, xs, h1, h2, h3, h4, fun k hk g hg e => h5 g hg (e ▸ hk)⟩
theorem MgSt.with {W w w' : World} {M M' : List PV} {T : List (List UInt8)} {vm vt v' : Value} (h : MgSt W M T vm vt w) (hG : OwnG (fun k => ∀ g, vt.ownBlock = some g → k ≠ g) w w.heap.size M' v' w') : MgSt W M' T v' vt w' := by
  obtain ⟨F, xs, h1, h2, h3, h4, h5⟩ := hG.rep
  have hs := h.bel.size
  exact ⟨h.bel.trans (hG.bel.mono hs), ⟨F, xs, own_base h1 (fun g hg => by have := (h1.lt g hg).1; omega), h2, h3, h4, fun g hg hF => h5 g hF g hg rfl⟩, own_kept h.torn (fun g hg => hG.bel.block g (h.torn.lt g hg).2)⟩
set_option maxRecDepth 100000 in
set_option maxHeartbeats 16000000 in
theorem mergeR_any (lo la lb : List PV) (Ao Aa Ab : Option Addr) (co ca cb : Nat) (w : World) (ho : PSl w w.heap.size lo (.slice Ao lo.length co)) (ha : PSl w w.heap.size la (.slice Aa la.length ca)) (hb : PSl w w.heap.size lb (.slice Ab lb.length cb)) :
    Calls Tryz.prog 28 #[.slice Ao lo.length co, .slice Aa la.length ca, .slice Ab lb.length cb] w (MergeGives w (mergeE lo la lb) (mergedL lo la lb (namesS [lo, la, lb])) (tornL lo la lb (namesS [lo, la, lb]))) := by
  have HPO := Lib.hid ho
  have HPA := Lib.hid ha
  have HPB := Lib.hid hb
  have HCO := Lib.hid (fun W (hW : Below w.heap.size w W) => propsFault_any lo Ao co W ((ho.below hW (Nat.le_refl _)).up hW.size))
  have HCA := Lib.hid (fun W (hW : Below w.heap.size w W) => propsFault_any la Aa ca W ((ha.below hW (Nat.le_refl _)).up hW.size))
  have HCB := Lib.hid (fun W (hW : Below w.heap.size w W) => propsFault_any lb Ab cb W ((hb.below hW (Nat.le_refl _)).up hW.size))
  have nodes : ∀ {l : List PV}, propsE l = 0 → ∀ p ∈ l, nodesV p.val ≤ 1048576 := fun {l} h p hp => by have := (propsE_right h p hp).nodes; omega
  have HGO := Lib.hid (fun (h0 : propsE lo = 0) q W (hW : Below w.heap.size w W) => (getOfB_any w.heap.size lo q Ao co W hW.size (ho.below hW (Nat.le_refl _))).mono (fun _ _ h => getOf_valF h hW.size))
  have HGA := Lib.hid (fun (h0 : propsE la = 0) q W (hW : Below w.heap.size w W) => (getOfB_any w.heap.size la q Aa ca W hW.size (ha.below hW (Nat.le_refl _))).mono (fun _ _ h => getOf_valF h hW.size))
  have HGB := Lib.hid (fun (h0 : propsE lb = 0) q W (hW : Below w.heap.size w W) => (getOfB_any w.heap.size lb q Ab cb W hW.size (hb.below hW (Nat.le_refl _))).mono (fun _ _ h => getOf_valF h hW.size))
  have HE : Hid (mergeE lo la lb = if propsE lo ≠ 0 then propsE lo else if propsE la ≠ 0 then propsE la else if propsE lb ≠ 0 then propsE lb else if 20 < (mergedL lo la lb (namesS [lo, la, lb])).length then 4 else 0) := Lib.hid rfl
  obtain ⟨N, hN⟩ : ∃ N, N = namesS [lo, la, lb] := ⟨_, rfl⟩
  have HNN := Lib.hid hN
  rw [← hN] at HE ⊢
  have HNL : Hid (propsE lo = 0 → propsE la = 0 → propsE lb = 0 → N.length ≤ 60) := Lib.hid (fun h1 h2 h3 => by
    have := names_three lo la lb
    have h1 := (propsE_few h1).1
    have h2 := (propsE_few h2).1
    have h3 := (propsE_few h3).1
    rw [hN]; omega)
  have HNS : Hid (∀ q ∈ N, q.toArray.size ≤ 1048576) := Lib.hid (fun q hq => by
    rw [hN] at hq
    obtain ⟨l, hl, p, hp, rfl⟩ := names_mem hq
    simp only [List.mem_cons, List.not_mem_nil, or_false] at hl
    have : p.nm.size ≤ 1048576 := by
      rcases hl with rfl | rfl | rfl
      · exact psl_names ho p hp
      · exact psl_names ha p hp
      · exact psl_names hb p hp
    show p.nm.data.toList.toArray.size ≤ 1048576
    rw [Array.toArray_toList]
    exact this)
  have HRO := Lib.hid (fun (h0 : propsE lo = 0) q => valOf_right (q := q) h0)
  have HRA := Lib.hid (fun (h0 : propsE la = 0) q => valOf_right (q := q) h0)
  have HRB := Lib.hid (fun (h0 : propsE lb = 0) q => valOf_right (q := q) h0)
  obtain ⟨i0, hi0, hz0, hz1, hz2⟩ := info_parts infoPr
  obtain ⟨iS, hiS, hy0, hy1, hy2⟩ := info_parts infoStrN
  generalize mergeE lo la lb = err at HE ⊢
  generalize propsE lo = eo at HCO HGO HE HNL HRO
  generalize propsE la = ea at HCA HGA HE HNL HRA
  generalize propsE lb = eb at HCB HGB HE HNL HRB
  obtain ⟨no, hnlo⟩ : ∃ no, no = lo.length := ⟨_, rfl⟩
  have HLNO := Lib.hid hnlo
  rw [← hnlo] at HCO HGO HPO ⊢
  obtain ⟨na, hnla⟩ : ∃ na, na = la.length := ⟨_, rfl⟩
  have HLNA := Lib.hid hnla
  rw [← hnla] at HCA HGA HPA ⊢
  obtain ⟨nb, hnlb⟩ : ∃ nb, nb = lb.length := ⟨_, rfl⟩
  have HLNB := Lib.hid hnlb
  rw [← hnlb] at HCB HGB HPB ⊢
  clear ho ha hb nodes hN hnlo hnla hnlb
  have HTOT : Hid (∀ j, (allNames ([lo, la, lb].take j)).length ≤ 3 * 1048576) := Lib.hid (fun j => by
    have h1 : lo.length ≤ 1048576 := by obtain ⟨_, _, e, h1, _⟩ := HPO.out; exact h1
    have h2 : la.length ≤ 1048576 := by obtain ⟨_, _, e, h1, _⟩ := HPA.out; exact h1
    have h3 : lb.length ≤ 1048576 := by obtain ⟨_, _, e, h1, _⟩ := HPB.out; exact h1
    refine Nat.le_trans (allNames_len _ (fun x hx => ?_)) (Nat.mul_le_mul_right _ (by rw [List.length_take]; simp; omega))
    have hx := List.mem_of_mem_take hx
    simp only [List.mem_cons, List.not_mem_nil, or_false] at hx
    rcases hx with rfl | rfl | rfl <;> assumption)
  go_enter Tryz.func28, Tryz.ntmps28
  go_wp2_with fail
  obtain ⟨W0, hW0⟩ : ∃ W0, W0 = w.alloc (.cells #[.slice Ao no co, .slice Aa na ca, .slice Ab nb cb] 31) := ⟨_, rfl⟩
  have HBW0 : Hid (Below w.heap.size w W0) := Lib.hid (by rw [hW0]; exact (Below.refl _ _).alloc (Nat.le_refl _) _)
  have HBK : Hid (W0.heap[w.heap.size]? = some (.cells #[.slice Ao no co, .slice Aa na ca, .slice Ab nb cb] 31 (0, 0))) := Lib.hid (by rw [hW0]; exact heap_alloc_new w _)
  have HSW : Hid (W0.heap.size = w.heap.size + 1) := Lib.hid (by rw [hW0]; simp)
  rw [← hW0]
  clear hW0
  go_loopw [9, 32] (fun ov iv wx => ∃ j : Nat, iv = .int .i64 j ∧ j ≤ 3 ∧ Hid (ThreeOf W0 eo ea eb [lo, la, lb] j ov wx)) (fun _ iv _ => 3 - (intOf iv).toNat)
  case atStart => exact ⟨0, rfl, by omega, Lib.hid ⟨OwnS.nil (Below.refl _ _) (Nat.le_refl _), fun h => absurd h (by omega), fun h => absurd h (by omega), fun h => absurd h (by omega)⟩⟩
  case round =>
    obtain ⟨j, rfl, hjl, HR⟩ := hrel
    have hbw : Below w.heap.size w wr := HBW0.out.trans (HR.out.own.bel.mono HBW0.out.size)
    have hblk := (HR.out.own.bel.block w.heap.size (by rw [HSW.out]; omega)).trans HBK.out
    have x0 := cell_of_row wr _ 0 _ _ (0, 0) hblk
    have x1 := cell_of_row wr _ 1 _ _ (0, 0) hblk
    have x2 := cell_of_row wr _ 2 _ _ (0, 0) hblk
    clear hblk
    obtain rfl | rfl | rfl | rfl : j = 0 ∨ j = 1 ∨ j = 2 ∨ j = 3 := by omega
    · have HEN : Hid (allNames ([lo, la, lb].take 1) = allNames ([lo, la, lb].take 0) ++ namesL lo) := Lib.hid (allNames_snoc (Ls := [lo, la, lb]) (j := 0) (by simp))
      have hLl : lo.length ≤ 1048576 := by obtain ⟨_, _, e, h1, _⟩ := HPO.out; exact h1
      rw [← HLNO.out] at hLl
      by_cases he : eo = 0
      · subst he
        go_wp2_with fail
        refine (HCO.out _ hbw).mono ?_
        rintro e1 w1 ⟨rfl, hb1⟩
        have HX1 : Hid (OwnS W0 W0.heap.size (allNames ([lo, la, lb].take 0) ++ namesL (lo.take 0)) _ w1) := Lib.hid (by have h0 : namesL (lo.take 0) = [] := rfl; rw [h0, List.append_nil]; exact HR.out.own.later hb1)
        have HRO3 := Lib.hid (And.intro HR.out.o (And.intro HR.out.a HR.out.b))
        have hal := HTOT.out 0
        clear hb1 HR x0 x1 x2
        go_wp2_with fail
        go_loopw [9, 43] (fun ov iv wx => ∃ i : Nat, iv = .int .i64 i ∧ i ≤ no ∧ Hid (OwnS W0 W0.heap.size (allNames ([lo, la, lb].take 0) ++ namesL (lo.take i)) ov wx)) (fun _ iv _ => no - (intOf iv).toNat)
        case atStart => exact ⟨0, rfl, Nat.zero_le _, HX1⟩
        case round =>
          obtain ⟨i, rfl, hil, HI⟩ := hrel
          by_cases hi2 : i < no
          · have hi3 : i < lo.length := by rw [← HLNO.out]; exact hi2
            have p3 : (i : Int) < no := by omega
            obtain ⟨b1, off, nm, kx, ix, tx, sx, lx, Ax, cx, rfl, hx, hlt, gn, g0, g1, g2, g3, g4, _⟩ := prop_item (by rw [← HLNO.out]; exact HPO.out) hi3
            have hbel := HBW0.out.trans (HI.out.bel.mono HBW0.out.size)
            replace gn := (hbel.cell (p := ⟨b1, off + i * 6, none⟩) hlt).trans gn
            replace g0 := (hbel.cell (p := ⟨b1, off + i * 6 + 1, none⟩) hlt).trans g0
            replace g1 := (hbel.cell (p := ⟨b1, off + i * 6 + 2, none⟩) hlt).trans g1
            replace g2 := (hbel.cell (p := ⟨b1, off + i * 6 + 3, none⟩) hlt).trans g2
            replace g3 := (hbel.cell (p := ⟨b1, off + i * 6 + 4, none⟩) hlt).trans g3
            replace g4 := (hbel.cell (p := ⟨b1, off + i * 6 + 5, none⟩) hlt).trans g4
            have hszw := HI.out.le
            have hnx : lo[i].nm = nm := by rw [hx]
            have HE1 : Hid (allNames ([lo, la, lb].take 0) ++ namesL (lo.take (i + 1)) = (allNames ([lo, la, lb].take 0) ++ namesL (lo.take i)) ++ [nm.data.toList]) := Lib.hid (by rw [namesL_snoc hi3, hnx, List.append_assoc])
            have hfl : (allNames ([lo, la, lb].take 0) ++ namesL (lo.take i)).length ≤ 1001 * 1048576 := by
              rw [List.length_append]
              simp only [namesL, List.length_map, List.length_take]
              omega
            obtain ⟨Nm, hNm⟩ : ∃ Nm, Nm = allNames ([lo, la, lb].take 0) ++ namesL (lo.take i) := ⟨_, rfl⟩
            rw [← hNm] at HI HE1 hfl
            obtain ⟨A0, c0, rfl⟩ := own_shape HI.out.own
            obtain ⟨fl, hfl2⟩ : ∃ fl, fl = Nm.length := ⟨_, rfl⟩
            have HFL := Lib.hid hfl2
            have HOW := Lib.hid HI.out.own
            rw [← hfl2] at hfl HOW ⊢
            generalize lx.length = m4 at g4
            clear hx hnx hNm hfl2 hbel HX1
            go_wp2_with (at_builtin; refine wpList_append_lies _ rfl _ _ 47 rfl W0.heap.size 9 iS _ 1 16 Tryz.underlying47 hiS hy0 hy1 hy2 rfl (by omega) (.slice A0 fl c0) fl (Nm.map encStr) rfl ((HOW.out.alloc _).alloc _) ⟨wr.heap.size + 1, 0, none⟩ 1 1 [.string nm] rfl rfl (by intro q u hq; have := one_news (wr.alloc (.cells #[.string nm, .int .i64 kx, .int .i64 ix, .int .i64 tx, .string sx, .slice Ax m4 cx] 65)) (.string nm) 9 q u hq; simpa using this) (by simp [Value.oneCell']) (by omega) (by unfold maxLen; omega) (by omega) (by simp; omega) _ rfl ?_)
            intro gg cap w4 ho4 hg4 hat4 hlt4
            have HX : Hid (OwnS W0 W0.heap.size (Nm ++ [nm.data.toList]) (.slice (some ⟨gg, 0, none⟩) (fl + 1) cap) w4) := Lib.hid (by
              have hf := HFL.out
              subst hf
              exact ((HI.out.alloc _).alloc _).push ho4 hg4)
            clear ho4 hg4 hat4
            go_wp2_with fail
            go_roundw
            case rel => exact ⟨i + 1, by go_num, hi2, Lib.hid (by rw [HE1.out]; exact HX.out)⟩
            case measure => simp [intOf]; omega
          · have p3 : ¬ (i : Int) < no := by omega
            have HX : Hid (ThreeOf W0 0 ea eb [lo, la, lb] 1 _ _) := Lib.hid (by
              have h := HI.out
              have e1 : lo.take i = lo := List.take_of_length_le (by rw [← HLNO.out]; omega)
              rw [e1, ← HEN.out] at h
              exact ⟨h, fun _ => rfl, fun hh => absurd hh (by omega), fun hh => absurd hh (by omega)⟩)
            clear HI
            go_wp2_with fail
            go_roundw
            case rel => exact ⟨1, by go_num, by omega, HX⟩
            case measure => simp [intOf]
      · go_wp2_with fail
        refine (HCO.out _ hbw).mono ?_
        rintro e1 w1 ⟨rfl, hb1⟩
        have HX := Lib.hid (hbw.trans (hb1.mono hbw.size))
        clear hb1
        go_wp2_with fail
        go_ret3
        have e3 : err = eo := by have := HE.out; rw [if_pos he] at this; exact this
        rw [e3]
        exact mergeGives_bad he HX.out
    · have ho0 := HR.out.o (by omega)
      subst ho0
      have HEN : Hid (allNames ([lo, la, lb].take 2) = allNames ([lo, la, lb].take 1) ++ namesL la) := Lib.hid (allNames_snoc (Ls := [lo, la, lb]) (j := 1) (by simp))
      have hLl : la.length ≤ 1048576 := by obtain ⟨_, _, e, h1, _⟩ := HPA.out; exact h1
      rw [← HLNA.out] at hLl
      by_cases he : ea = 0
      · subst he
        go_wp2_with fail
        refine (HCA.out _ hbw).mono ?_
        rintro e1 w1 ⟨rfl, hb1⟩
        have HX1 : Hid (OwnS W0 W0.heap.size (allNames ([lo, la, lb].take 1) ++ namesL (la.take 0)) _ w1) := Lib.hid (by have h0 : namesL (la.take 0) = [] := rfl; rw [h0, List.append_nil]; exact HR.out.own.later hb1)
        have HRO3 := Lib.hid (And.intro HR.out.o (And.intro HR.out.a HR.out.b))
        have hal := HTOT.out 1
        clear hb1 HR x0 x1 x2
        go_wp2_with fail
        go_loopw [9, 43] (fun ov iv wx => ∃ i : Nat, iv = .int .i64 i ∧ i ≤ na ∧ Hid (OwnS W0 W0.heap.size (allNames ([lo, la, lb].take 1) ++ namesL (la.take i)) ov wx)) (fun _ iv _ => na - (intOf iv).toNat)
        case atStart => exact ⟨0, rfl, Nat.zero_le _, HX1⟩
        case round =>
          obtain ⟨i, rfl, hil, HI⟩ := hrel
          by_cases hi2 : i < na
          · have hi3 : i < la.length := by rw [← HLNA.out]; exact hi2
            have p3 : (i : Int) < na := by omega
            obtain ⟨b1, off, nm, kx, ix, tx, sx, lx, Ax, cx, rfl, hx, hlt, gn, g0, g1, g2, g3, g4, _⟩ := prop_item (by rw [← HLNA.out]; exact HPA.out) hi3
            have hbel := HBW0.out.trans (HI.out.bel.mono HBW0.out.size)
            replace gn := (hbel.cell (p := ⟨b1, off + i * 6, none⟩) hlt).trans gn
            replace g0 := (hbel.cell (p := ⟨b1, off + i * 6 + 1, none⟩) hlt).trans g0
            replace g1 := (hbel.cell (p := ⟨b1, off + i * 6 + 2, none⟩) hlt).trans g1
            replace g2 := (hbel.cell (p := ⟨b1, off + i * 6 + 3, none⟩) hlt).trans g2
            replace g3 := (hbel.cell (p := ⟨b1, off + i * 6 + 4, none⟩) hlt).trans g3
            replace g4 := (hbel.cell (p := ⟨b1, off + i * 6 + 5, none⟩) hlt).trans g4
            have hszw := HI.out.le
            have hnx : la[i].nm = nm := by rw [hx]
            have HE1 : Hid (allNames ([lo, la, lb].take 1) ++ namesL (la.take (i + 1)) = (allNames ([lo, la, lb].take 1) ++ namesL (la.take i)) ++ [nm.data.toList]) := Lib.hid (by rw [namesL_snoc hi3, hnx, List.append_assoc])
            have hfl : (allNames ([lo, la, lb].take 1) ++ namesL (la.take i)).length ≤ 1001 * 1048576 := by
              rw [List.length_append]
              simp only [namesL, List.length_map, List.length_take]
              omega
            obtain ⟨Nm, hNm⟩ : ∃ Nm, Nm = allNames ([lo, la, lb].take 1) ++ namesL (la.take i) := ⟨_, rfl⟩
            rw [← hNm] at HI HE1 hfl
            obtain ⟨A0, c0, rfl⟩ := own_shape HI.out.own
            obtain ⟨fl, hfl2⟩ : ∃ fl, fl = Nm.length := ⟨_, rfl⟩
            have HFL := Lib.hid hfl2
            have HOW := Lib.hid HI.out.own
            rw [← hfl2] at hfl HOW ⊢
            generalize lx.length = m4 at g4
            clear hx hnx hNm hfl2 hbel HX1
            go_wp2_with (at_builtin; refine wpList_append_lies _ rfl _ _ 47 rfl W0.heap.size 9 iS _ 1 16 Tryz.underlying47 hiS hy0 hy1 hy2 rfl (by omega) (.slice A0 fl c0) fl (Nm.map encStr) rfl ((HOW.out.alloc _).alloc _) ⟨wr.heap.size + 1, 0, none⟩ 1 1 [.string nm] rfl rfl (by intro q u hq; have := one_news (wr.alloc (.cells #[.string nm, .int .i64 kx, .int .i64 ix, .int .i64 tx, .string sx, .slice Ax m4 cx] 65)) (.string nm) 9 q u hq; simpa using this) (by simp [Value.oneCell']) (by omega) (by unfold maxLen; omega) (by omega) (by simp; omega) _ rfl ?_)
            intro gg cap w4 ho4 hg4 hat4 hlt4
            have HX : Hid (OwnS W0 W0.heap.size (Nm ++ [nm.data.toList]) (.slice (some ⟨gg, 0, none⟩) (fl + 1) cap) w4) := Lib.hid (by
              have hf := HFL.out
              subst hf
              exact ((HI.out.alloc _).alloc _).push ho4 hg4)
            clear ho4 hg4 hat4
            go_wp2_with fail
            go_roundw
            case rel => exact ⟨i + 1, by go_num, hi2, Lib.hid (by rw [HE1.out]; exact HX.out)⟩
            case measure => simp [intOf]; omega
          · have p3 : ¬ (i : Int) < na := by omega
            have HX : Hid (ThreeOf W0 0 0 eb [lo, la, lb] 2 _ _) := Lib.hid (by
              have h := HI.out
              have e1 : la.take i = la := List.take_of_length_le (by rw [← HLNA.out]; omega)
              rw [e1, ← HEN.out] at h
              exact ⟨h, fun _ => rfl, fun hh => rfl, fun hh => absurd hh (by omega)⟩)
            clear HI
            go_wp2_with fail
            go_roundw
            case rel => exact ⟨2, by go_num, by omega, HX⟩
            case measure => simp [intOf]
      · go_wp2_with fail
        refine (HCA.out _ hbw).mono ?_
        rintro e1 w1 ⟨rfl, hb1⟩
        have HX := Lib.hid (hbw.trans (hb1.mono hbw.size))
        clear hb1
        go_wp2_with fail
        go_ret3
        have e3 : err = ea := by have := HE.out; rw [if_neg (by simp), if_pos he] at this; exact this
        rw [e3]
        exact mergeGives_bad he HX.out
    · have ho0 := HR.out.o (by omega)
      subst ho0
      have ha0 := HR.out.a (by omega)
      subst ha0
      have HEN : Hid (allNames ([lo, la, lb].take 3) = allNames ([lo, la, lb].take 2) ++ namesL lb) := Lib.hid (allNames_snoc (Ls := [lo, la, lb]) (j := 2) (by simp))
      have hLl : lb.length ≤ 1048576 := by obtain ⟨_, _, e, h1, _⟩ := HPB.out; exact h1
      rw [← HLNB.out] at hLl
      by_cases he : eb = 0
      · subst he
        go_wp2_with fail
        refine (HCB.out _ hbw).mono ?_
        rintro e1 w1 ⟨rfl, hb1⟩
        have HX1 : Hid (OwnS W0 W0.heap.size (allNames ([lo, la, lb].take 2) ++ namesL (lb.take 0)) _ w1) := Lib.hid (by have h0 : namesL (lb.take 0) = [] := rfl; rw [h0, List.append_nil]; exact HR.out.own.later hb1)
        have HRO3 := Lib.hid (And.intro HR.out.o (And.intro HR.out.a HR.out.b))
        have hal := HTOT.out 2
        clear hb1 HR x0 x1 x2
        go_wp2_with fail
        go_loopw [9, 43] (fun ov iv wx => ∃ i : Nat, iv = .int .i64 i ∧ i ≤ nb ∧ Hid (OwnS W0 W0.heap.size (allNames ([lo, la, lb].take 2) ++ namesL (lb.take i)) ov wx)) (fun _ iv _ => nb - (intOf iv).toNat)
        case atStart => exact ⟨0, rfl, Nat.zero_le _, HX1⟩
        case round =>
          obtain ⟨i, rfl, hil, HI⟩ := hrel
          by_cases hi2 : i < nb
          · have hi3 : i < lb.length := by rw [← HLNB.out]; exact hi2
            have p3 : (i : Int) < nb := by omega
            obtain ⟨b1, off, nm, kx, ix, tx, sx, lx, Ax, cx, rfl, hx, hlt, gn, g0, g1, g2, g3, g4, _⟩ := prop_item (by rw [← HLNB.out]; exact HPB.out) hi3
            have hbel := HBW0.out.trans (HI.out.bel.mono HBW0.out.size)
            replace gn := (hbel.cell (p := ⟨b1, off + i * 6, none⟩) hlt).trans gn
            replace g0 := (hbel.cell (p := ⟨b1, off + i * 6 + 1, none⟩) hlt).trans g0
            replace g1 := (hbel.cell (p := ⟨b1, off + i * 6 + 2, none⟩) hlt).trans g1
            replace g2 := (hbel.cell (p := ⟨b1, off + i * 6 + 3, none⟩) hlt).trans g2
            replace g3 := (hbel.cell (p := ⟨b1, off + i * 6 + 4, none⟩) hlt).trans g3
            replace g4 := (hbel.cell (p := ⟨b1, off + i * 6 + 5, none⟩) hlt).trans g4
            have hszw := HI.out.le
            have hnx : lb[i].nm = nm := by rw [hx]
            have HE1 : Hid (allNames ([lo, la, lb].take 2) ++ namesL (lb.take (i + 1)) = (allNames ([lo, la, lb].take 2) ++ namesL (lb.take i)) ++ [nm.data.toList]) := Lib.hid (by rw [namesL_snoc hi3, hnx, List.append_assoc])
            have hfl : (allNames ([lo, la, lb].take 2) ++ namesL (lb.take i)).length ≤ 1001 * 1048576 := by
              rw [List.length_append]
              simp only [namesL, List.length_map, List.length_take]
              omega
            obtain ⟨Nm, hNm⟩ : ∃ Nm, Nm = allNames ([lo, la, lb].take 2) ++ namesL (lb.take i) := ⟨_, rfl⟩
            rw [← hNm] at HI HE1 hfl
            obtain ⟨A0, c0, rfl⟩ := own_shape HI.out.own
            obtain ⟨fl, hfl2⟩ : ∃ fl, fl = Nm.length := ⟨_, rfl⟩
            have HFL := Lib.hid hfl2
            have HOW := Lib.hid HI.out.own
            rw [← hfl2] at hfl HOW ⊢
            generalize lx.length = m4 at g4
            clear hx hnx hNm hfl2 hbel HX1
            go_wp2_with (at_builtin; refine wpList_append_lies _ rfl _ _ 47 rfl W0.heap.size 9 iS _ 1 16 Tryz.underlying47 hiS hy0 hy1 hy2 rfl (by omega) (.slice A0 fl c0) fl (Nm.map encStr) rfl ((HOW.out.alloc _).alloc _) ⟨wr.heap.size + 1, 0, none⟩ 1 1 [.string nm] rfl rfl (by intro q u hq; have := one_news (wr.alloc (.cells #[.string nm, .int .i64 kx, .int .i64 ix, .int .i64 tx, .string sx, .slice Ax m4 cx] 65)) (.string nm) 9 q u hq; simpa using this) (by simp [Value.oneCell']) (by omega) (by unfold maxLen; omega) (by omega) (by simp; omega) _ rfl ?_)
            intro gg cap w4 ho4 hg4 hat4 hlt4
            have HX : Hid (OwnS W0 W0.heap.size (Nm ++ [nm.data.toList]) (.slice (some ⟨gg, 0, none⟩) (fl + 1) cap) w4) := Lib.hid (by
              have hf := HFL.out
              subst hf
              exact ((HI.out.alloc _).alloc _).push ho4 hg4)
            clear ho4 hg4 hat4
            go_wp2_with fail
            go_roundw
            case rel => exact ⟨i + 1, by go_num, hi2, Lib.hid (by rw [HE1.out]; exact HX.out)⟩
            case measure => simp [intOf]; omega
          · have p3 : ¬ (i : Int) < nb := by omega
            have HX : Hid (ThreeOf W0 0 0 0 [lo, la, lb] 3 _ _) := Lib.hid (by
              have h := HI.out
              have e1 : lb.take i = lb := List.take_of_length_le (by rw [← HLNB.out]; omega)
              rw [e1, ← HEN.out] at h
              exact ⟨h, fun _ => rfl, fun hh => rfl, fun hh => rfl⟩)
            clear HI
            go_wp2_with fail
            go_roundw
            case rel => exact ⟨3, by go_num, by omega, HX⟩
            case measure => simp [intOf]
      · go_wp2_with fail
        refine (HCB.out _ hbw).mono ?_
        rintro e1 w1 ⟨rfl, hb1⟩
        have HX := Lib.hid (hbw.trans (hb1.mono hbw.size))
        clear hb1
        go_wp2_with fail
        go_ret3
        have e3 : err = eb := by have := HE.out; rw [if_neg (by simp), if_neg (by simp), if_pos he] at this; exact this
        rw [e3]
        exact mergeGives_bad he HX.out
    · have ho0 := HR.out.o (by omega)
      have ha0 := HR.out.a (by omega)
      have hb0 := HR.out.b (by omega)
      subst ho0 ha0 hb0
      have hOW := HR.out.own
      rw [show ([lo, la, lb].take 3) = [lo, la, lb] from rfl] at hOW
      have hbn : (allNames [lo, la, lb]).length ≤ 3 * 1048576 := HTOT.out 3
      have hbn2 : (sortS (allNames [lo, la, lb])).length ≤ 3 * 1048576 := by rw [sortS_len]; exact hbn
      have HS := Lib.hid (strSort_any (allNames [lo, la, lb]) _ W0.heap.size W0 wr (by omega) hOW)
      have hnl := HNL.out rfl rfl rfl
      have KGO := Lib.hid (HGO.out rfl)
      have KGA := Lib.hid (HGA.out rfl)
      have KGB := Lib.hid (HGB.out rfl)
      have KRO := Lib.hid (HRO.out rfl)
      have KRA := Lib.hid (HRA.out rfl)
      have KRB := Lib.hid (HRB.out rfl)
      have HRISE : Hid (N.Pairwise (· < ·)) := Lib.hid (by rw [HNN.out]; exact names_rise _)
      clear HR HNL x0 x1 x2 hOW hbw
      go_wp2_with fail
      refine HS.out.mono ?_
      rintro e1 w1 ⟨rfl, hO1⟩
      have HC1 := Lib.hid (strCompact_any _ _ _ _ _ (by omega) hO1)
      clear hO1
      go_wp2_with fail
      refine HC1.out.mono ?_
      rintro e2 w2 ⟨v2, rfl, hO2⟩
      rw [show Lib.compact (sortS (allNames [lo, la, lb])) = N from HNN.out.symm] at hO2
      obtain ⟨An, cn, rfl⟩ := own_shape hO2.own
      have HB2 := Lib.hid (HBW0.out.trans (hO2.bel.mono HBW0.out.size))
      have HN2 := Lib.hid hO2.own
      obtain ⟨n, hn⟩ : ∃ n, n = N.length := ⟨_, rfl⟩
      have HN := Lib.hid hn
      rw [← hn] at hnl ⊢
      clear hO2 hn HS HC1
      go_wp2_with fail
      go_loopw [15, 16, 59] (fun mv tv iv wx => ∃ j : Nat, iv = .int .i64 j ∧ j ≤ n ∧ Hid (MgSt w2 (mergedL lo la lb (N.take j)) (tornL lo la lb (N.take j)) mv tv wx)) (fun _ _ iv _ => n - (intOf iv).toNat)
      case atStart => exact ⟨0, rfl, Nat.zero_le _, Lib.hid (by rw [List.take_zero]; exact MgSt.nil (Below.refl _ _))⟩
      case round =>
        obtain ⟨j, rfl, hjl, HR⟩ := hrel
        have hsz2 := HB2.out.size
        have HBR2 := Lib.hid (HB2.out.trans (HR.out.bel.mono hsz2))
        have hszr2 := HBR2.out.size
        have hM1 := mergedL_len lo la lb (N.take j)
        have hT1 := tornL_len lo la lb (N.take j)
        rw [List.length_take] at hM1 hT1
        obtain ⟨M, hM⟩ : ∃ M, M = mergedL lo la lb (N.take j) := ⟨_, rfl⟩
        obtain ⟨T, hT⟩ : ∃ T, T = tornL lo la lb (N.take j) := ⟨_, rfl⟩
        rw [← hM] at HR hM1
        rw [← hT] at HR hT1
        obtain ⟨F, xs, h1, h2, h3, h4, h5⟩ := HR.out.rep
        obtain ⟨Am, cm, rfl⟩ := own_shape h1
        obtain ⟨At, ct, rfl⟩ := own_shape HR.out.torn
        by_cases hj : j < n
        · have hj2 : j < N.length := by rw [← HN.out]; exact hj
          have p2 : (j : Int) < n := by omega
          obtain ⟨gn, rfl, hgn, hgl, hgc⟩ := names_cell HN2.out hj2
          have hnc := (HR.out.bel.cell (p := ⟨gn, j, none⟩) hgl).trans hgc
          have HEM := Lib.hid (mergedL_snoc (lo := lo) (la := la) (lb := lb) hj2)
          have HET := Lib.hid (tornL_snoc (lo := lo) (la := la) (lb := lb) hj2)
          have HQ := Lib.hid (HNS.out N[j] (List.getElem_mem hj2))
          have hU0 := merged_under (lo := lo) (la := la) (lb := lb) HRISE.out hj2
          have HA2 : Hid (Asc (mergedL lo la lb (N.take j))) := Lib.hid (merged_asc HRISE.out j (by omega))
          generalize N[j] = qs at hnc HEM HET HQ hU0
          obtain ⟨q, hq⟩ : ∃ q, q = (⟨qs.toArray⟩ : ByteArray) := ⟨_, rfl⟩
          rw [← hq] at hnc hU0
          rw [← hM] at hU0 HA2
          have HU := Lib.hid hU0
          have hqs : qs = q.data.toList := by rw [hq]
          obtain ⟨vo, hvo⟩ : ∃ vo, vo = valOf lo q := ⟨_, rfl⟩
          obtain ⟨va, hva⟩ : ∃ va, va = valOf la q := ⟨_, rfl⟩
          obtain ⟨vb, hvb⟩ : ∃ vb, vb = valOf lb q := ⟨_, rfl⟩
          obtain ⟨mt, hmt⟩ : ∃ mt, mt = mergeT vo va vb := ⟨_, rfl⟩
          have HMG : Hid (mgOf lo la lb qs = mt) := Lib.hid (by unfold mgOf; rw [← hq, hmt, hvo, hva, hvb])
          have G1 := Lib.hid (KGO.out q wr HBR2.out)
          have G2 := Lib.hid (fun W (hW : Below w.heap.size w W) => KGA.out q W hW)
          have G3 := Lib.hid (fun W (hW : Below w.heap.size w W) => KGB.out q W hW)
          have RO := Lib.hid (KRO.out q)
          have RA := Lib.hid (KRA.out q)
          have RB := Lib.hid (KRB.out q)
          rw [← hvo] at G1 RO
          rw [← hva] at G2 RA
          rw [← hvb] at G3 RB
          have HMT := Lib.hid hmt
          have HM := Lib.hid hM
          have HT := Lib.hid hT
          have HH1 := Lib.hid h1
          have HH2 := Lib.hid h2
          have HH3 := Lib.hid h3
          have HH4 := Lib.hid h4
          have HH5 := Lib.hid h5
          have HQS := Lib.hid hqs
          have HQZ : Hid (q.size ≤ 1048576) := Lib.hid (by rw [hq]; exact HQ.out)
          have hvm : ∀ g, (Value.slice Am M.length cm).ownBlock = some g → w.heap.size ≤ g ∧ g < wr.heap.size := fun g hg => by have := h1.lt g hg; omega
          have hvt : ∀ g, (Value.slice At T.length ct).ownBlock = some g → w.heap.size ≤ g ∧ g < wr.heap.size := fun g hg => by have := HR.out.torn.lt g hg; omega
          have HVM := Lib.hid hvm
          have HVT := Lib.hid hvt
          generalize hml : M.length = ml at HH1 HH4 HVM HR hM1 ⊢
          generalize htl : T.length = tl at HH5 HVT HR hT1 ⊢
          have HML := Lib.hid hml
          have HTL := Lib.hid htl
          clear hU0 hq hqs hvo hva hvb hmt hM hT h1 h2 h3 h4 h5 hvm hvt hgc hml htl HGO HGA HGB HRO HRA HRB KGO KGA KGB KRO KRA KRB HNS HQ
          go_wp2_with fail
          refine G1.out.mono ?_
          rintro e3 w3 ⟨g1, bl1, rfl, hv1, hb3⟩
          obtain ⟨k1, i1, t1, s1, l1, A1, c1, rfl, rfl, hz1', _⟩ := hv1.hand
          have HV1 := Lib.hid hv1
          generalize l1.length = m1 at HV1 ⊢
          have HR3 := Lib.hid hb3
          have HB3 := Lib.hid (HBR2.out.trans (hb3.mono hszr2))
          have hsz3 := HB3.out.size
          have hszr3 := HR3.out.size
          clear hv1 hb3
          go_wp2_with fail
          refine (G2.out _ (HB3.out.alloc hsz3 _)).mono ?_
          rintro e4 w4 ⟨g2, bl2, rfl, hv2, hb4⟩
          obtain ⟨k2, i2, t2, s2, l2, A2, c2, rfl, rfl, hz2', _⟩ := hv2.hand
          have HV2 := Lib.hid hv2
          generalize l2.length = m2 at HV2 ⊢
          have hsz34 := hb4.size
          simp only [World.size_alloc] at hsz34
          have HR4 : Hid (Below w3.heap.size w3 w4) := Lib.hid (((Below.refl _ w3).alloc (Nat.le_refl _) _).trans (hb4.mono (by simp)))
          have HX1 : Hid (w4.heap[w3.heap.size]? = some (.cells #[.int .i64 k1, .int .i64 i1, .int .i64 t1, .string s1, .slice A1 m1 c1] 24)) := Lib.hid ((hb4.block _ (by simp)).trans (heap_alloc_new w3 _))
          have HB4 := Lib.hid (HB3.out.trans (HR4.out.mono hsz3))
          have hsz4 := HB4.out.size
          clear hv2 hb4
          go_wp2_with fail
          refine (G3.out _ (HB4.out.alloc hsz4 _)).mono ?_
          rintro e5 w5 ⟨g3, bl3, rfl, hv3, hb5⟩
          obtain ⟨k3, i3, t3, s3, l3, A3, c3, rfl, rfl, hz3', _⟩ := hv3.hand
          have HV3 := Lib.hid hv3
          generalize l3.length = m3 at HV3 ⊢
          have hsz45 := hb5.size
          simp only [World.size_alloc] at hsz45
          have HR5 : Hid (Below w4.heap.size w4 w5) := Lib.hid (((Below.refl _ w4).alloc (Nat.le_refl _) _).trans (hb5.mono (by simp)))
          have HX2 : Hid (w5.heap[w4.heap.size]? = some (.cells #[.int .i64 k2, .int .i64 i2, .int .i64 t2, .string s2, .slice A2 m2 c2] 24)) := Lib.hid ((hb5.block _ (by simp)).trans (heap_alloc_new w4 _))
          have HB5 := Lib.hid (HB4.out.trans (HR5.out.mono hsz4))
          have hsz5 := HB5.out.size
          have hx1 := (HR5.out.block _ (by omega)).trans HX1.out
          obtain ⟨x0, x1, x2, x3, x4⟩ := five_cells hx1
          obtain ⟨y0, y1, y2, y3, y4⟩ := five_cells HX2.out
          have hlt1 : w3.heap.size < w5.heap.size := by omega
          have hlt2 : w4.heap.size < w5.heap.size := by omega
          obtain ⟨P, hPd⟩ : ∃ P : Nat → Prop, P = fun k => (k < w.heap.size ∨ wr.heap.size ≤ k) ∧ k < w5.heap.size := ⟨_, rfl⟩
          obtain ⟨W6, hW6⟩ : ∃ W6, W6 = w5.alloc (.cells #[.int .i64 k3, .int .i64 i3, .int .i64 t3, .string s3, .slice A3 m3 c3] 24) := ⟨_, rfl⟩
          have R56 : Below w5.heap.size w5 W6 := by rw [hW6]; exact (Below.refl _ w5).alloc (Nat.le_refl _) _
          have hsz6 : W6.heap.size = w5.heap.size + 1 := by rw [hW6]; simp
          have R46 : Below w4.heap.size w4 W6 := HR5.out.trans (R56.mono (by omega))
          have R36 : Below w3.heap.size w3 W6 := HR4.out.trans (R46.mono (by omega))
          have fo : VF W6 P (.mk k1 i1 t1 s1 l1) (.agg #[.int .i64 k1, .int .i64 i1, .int .i64 t1, .string s1, .slice A1 m1 c1]) := HV1.out.keep (fun k hk => R36.block k hk.2) (fun k hk => by rw [hPd]; exact ⟨hk.1, by omega⟩)
          have fa : VF W6 P (.mk k2 i2 t2 s2 l2) (.agg #[.int .i64 k2, .int .i64 i2, .int .i64 t2, .string s2, .slice A2 m2 c2]) := HV2.out.keep (fun k hk => R46.block k hk.2) (fun k hk => by rw [hPd]; exact ⟨by have := hk.1; simp only [World.size_alloc] at this; omega, by omega⟩)
          have fb : VF W6 P (.mk k3 i3 t3 s3 l3) (.agg #[.int .i64 k3, .int .i64 i3, .int .i64 t3, .string s3, .slice A3 m3 c3]) := HV3.out.keep (fun k hk => R56.block k hk.2) (fun k hk => by rw [hPd]; exact ⟨by have := hk.1; simp only [World.size_alloc] at this; omega, hk.2⟩)
          have hP6 : ∀ k, P k → k < W6.heap.size := fun k hk => by rw [hPd] at hk; have := hk.2; omega
          have HMV := Lib.hid (mergeValueRF_any P _ _ _ _ _ _ W6 (fo.at hP6) fa fb hP6 RO.out RA.out RB.out)
          rw [← HMT.out] at HMV
          have HBR6 : Hid (Below wr.heap.size wr W6) := Lib.hid (HR3.out.trans (R36.mono (by omega)))
          rw [hW6] at HMV HBR6
          have HPD := Lib.hid hPd
          clear hv3 hb5 hx1 hW6 R56 R46 R36 fo fa fb hP6 hPd hsz6
          rcases mt with ⟨v7, ag⟩
          go_wp2_with fail
          refine HMV.out.mono ?_
          rintro e7 w7 ⟨g7, rfl, hv7, hb7⟩
          obtain ⟨k7, i7, t7, s7, l7, A7, c7, rfl, rfl, hz7, hs7⟩ := hv7.hand
          have hsz7 := hb7.size
          simp only [World.size_alloc] at hsz7
          have HR7 := Lib.hid (HBR6.out.trans (hb7.mono HBR6.out.size))
          have HS7 := Lib.hid hs7
          have HST := Lib.hid (HR.out.later HR7.out)
          clear hv7 hb7 hs7 x0 x1 x2 x3 x4 y0 y1 y2 y3 y4
          have HPT : Hid (tornL lo la lb (N.take (j + 1)) = if ag = true then T else T ++ [q.data.toList]) := Lib.hid (by
            rw [HET.out, ← HT.out]
            unfold tnP
            rw [HMG.out, HQS.out]
            cases ag <;> simp)
          have HPM0 : Hid (k7 = 0 → mergedL lo la lb (N.take (j + 1)) = M) := Lib.hid (fun h0 => by
            rw [HEM.out, ← HM.out]
            unfold mgP
            rw [HMG.out, if_pos (show (V.mk k7 i7 t7 s7 l7, ag).1.kind = 0 from h0), List.append_nil])
          have HPM1 : Hid (k7 ≠ 0 → mergedL lo la lb (N.take (j + 1)) = M ++ [⟨q, .mk k7 i7 t7 s7 l7⟩]) := Lib.hid (fun h0 => by
            rw [HEM.out, ← HM.out]
            unfold mgP
            rw [HMG.out, if_neg (show ¬ (V.mk k7 i7 t7 s7 l7, ag).1.kind = 0 from h0), HQS.out, Array.toArray_toList])
          have HFOOT : Hid (∀ k, (P k ∨ (w5.alloc (.cells #[.int .i64 k3, .int .i64 i3, .int .i64 t3, .string s3, .slice A3 m3 c3] 24)).heap.size ≤ k) ∧ k < w7.heap.size → k < w7.heap.size ∧ (Value.slice Am ml cm).ownBlock ≠ some k ∧ (Value.slice At tl ct).ownBlock ≠ some k) := Lib.hid (fun k hk => by
            have hk1 := hk.1
            rw [HPD.out] at hk1
            simp only [World.size_alloc] at hk1
            have hsr := HR3.out.size
            exact ⟨hk.2, fun e => by have := HVM.out k e; omega, fun e => by have := HVT.out k e; omega⟩)
          obtain ⟨m7, hm7⟩ : ∃ m7, m7 = l7.length := ⟨_, rfl⟩
          have HM7 := Lib.hid hm7
          rw [← hm7]
          have HST8 : Hid (MgSt w2 M T (.slice Am ml cm) (.slice At tl ct) (w7.alloc (.cells #[.int .i64 k7, .int .i64 i7, .int .i64 t7, .string s7, .slice A7 m7 c7] 24))) := Lib.hid (HST.out.later ((Below.refl _ w7).alloc (Nat.le_refl _) _))
          have HRES : Hid ((if k7 = 0 then woL M q else insL (woL M q) M.length ⟨q, .mk k7 i7 t7 s7 l7⟩) = mergedL lo la lb (N.take (j + 1))) := Lib.hid (by
            rw [wo_end HU.out, ins_end]
            by_cases h0 : k7 = 0
            · rw [if_pos h0, HPM0.out h0]
            · rw [if_neg h0, HPM1.out h0])
          have hle27 := HST.out.bel.size
          have hto := HST8.out.torn
          rw [HTL.out] at hto
          have HSTO := Lib.hid hto
          clear hto hm7
          rcases ag with _ | _
          · go_wp2_with (at_builtin; refine wpList_append_lies _ rfl _ _ 47 rfl w2.heap.size 9 iS _ 1 16 Tryz.underlying47 hiS hy0 hy1 hy2 rfl (by omega) (.slice At tl ct) tl (T.map encStr) rfl (HSTO.out.alloc _) ⟨w7.heap.size + 1, 0, none⟩ 1 1 [.string q] rfl rfl (by intro q' u hq'; have := one_news (w7.alloc (.cells #[.int .i64 k7, .int .i64 i7, .int .i64 t7, .string s7, .slice A7 m7 c7] 24)) (.string q) 9 q' u hq'; simpa using this) (by simp [Value.oneCell']) (by omega) (by unfold maxLen; omega) (by omega) (by first | omega | (simp; omega)) _ rfl ?_)
            intro gt capt wz hoz hgz hatz hltz
            have hgk : ∀ k, k < w7.heap.size + 1 → (Value.slice At tl ct).ownBlock ≠ some k → wz.heap[k]? = (w7.alloc (.cells #[.int .i64 k7, .int .i64 i7, .int .i64 t7, .string s7, .slice A7 m7 c7] 24)).heap[k]? := fun k hk hne => (hgz.block k (by simp; omega) (fun e => hne e.symm)).trans (Below.heap_alloc _ _ _ (by simp; omega))
            have HBX : Hid (wz.heap[w7.heap.size]? = some (.cells #[.int .i64 k7, .int .i64 i7, .int .i64 t7, .string s7, .slice A7 m7 c7] 24 (0, 0))) := Lib.hid ((hgk _ (by omega) (fun e => by have := HVT.out _ e; have := HR7.out.size; omega)).trans (heap_alloc_new w7 _))
            have HV7 : Hid (SlF wz (fun k => (P k ∨ (w5.alloc (.cells #[.int .i64 k3, .int .i64 i3, .int .i64 t3, .string s3, .slice A3 m3 c3] 24)).heap.size ≤ k) ∧ k < w7.heap.size) l7 (.slice A7 l7.length c7)) := Lib.hid (HS7.out.keep (fun k hk => (hgk k (by omega) (HFOOT.out k hk).2.2).trans (Below.heap_alloc _ _ _ hk.2)) (fun _ h => h))
            have HP7 : Hid (∀ k, (P k ∨ (w5.alloc (.cells #[.int .i64 k3, .int .i64 i3, .int .i64 t3, .string s3, .slice A3 m3 c3] 24)).heap.size ≤ k) ∧ k < w7.heap.size → k < wz.heap.size ∧ ∀ g, (Value.slice (some ⟨gt, 0, none⟩) (tl + 1) capt).ownBlock = some g → k ≠ g) := Lib.hid (fun k hk => ⟨by have := hgz.size; simp only [World.size_alloc] at this; omega, fun g hg e => by
              simp only [Value.ownBlock, Option.some.injEq] at hg
              subst hg
              rcases hatz with h | h
              · exact (HFOOT.out k hk).2.2 (by rw [h, e])
              · first | omega | (simp only [World.size_alloc] at h; omega)⟩)
            have HS9 : Hid (MgSt w2 M (T ++ [q.data.toList]) (.slice Am ml cm) (.slice (some ⟨gt, 0, none⟩) (tl + 1) capt) wz) := Lib.hid (by
              have hl := HTL.out
              subst hl
              exact HST8.out.pushT hoz hgz (by simpa using hatz))
            clear hoz hgz hatz hgk
            have hbx : wz.heap[w7.heap.size]? = some (.cells #[.int .i64 k7, .int .i64 i7, .int .i64 t7, .string s7, .slice A7 m7 c7] 24 (0, 0)) := HBX.out
            obtain ⟨x0, x1, x2, x3, x4⟩ := five_cells hbx
            have hltx : w7.heap.size < wz.heap.size := lt_of_blk' hbx
            have HWI : Hid (Calls Tryz.prog 49 #[.slice Am ml cm, .string q, .agg #[.int .i64 k7, .int .i64 i7, .int .i64 t7, .string s7, .slice A7 m7 c7]] (wz) fun e w' => ∃ v, e = .returned v ∧ OwnG (fun k => ∀ g, (Value.slice (some ⟨gt, 0, none⟩) (tl + 1) capt).ownBlock = some g → k ≠ g) (wz) (wz).heap.size (mergedL lo la lb (N.take (j + 1))) v w') := Lib.hid (by
              have h := withG_any (G := fun k => ∀ g, (Value.slice (some ⟨gt, 0, none⟩) (tl + 1) capt).ownBlock = some g → k ≠ g) (P := fun k => (P k ∨ (w5.alloc (.cells #[.int .i64 k3, .int .i64 i3, .int .i64 t3, .string s3, .slice A3 m3 c3] 24)).heap.size ≤ k) ∧ k < w7.heap.size) w2.heap.size w2 M q Am cm k7 i7 t7 s7 l7 A7 c7 M.length (wz) (by have := HS9.out.ownG; rw [← HML.out] at this; exact this) (by have := HML.out; omega) HV7.out HP7.out ⟨HQZ.out, hz7⟩ (fun _ => by rw [wo_end HU.out, ins_end]; exact asc_end HA2.out HU.out)
              rw [HRES.out, HML.out, ← HM7.out] at h
              exact h)
            clear hbx HBX HV7 HP7
            go_wp2_with fail
            refine HWI.out.mono ?_
            rintro e9 w9 ⟨v9, rfl, hO9⟩
            have HX : Hid (MgSt w2 (mergedL lo la lb (N.take (j + 1))) (tornL lo la lb (N.take (j + 1))) v9 (Value.slice (some ⟨gt, 0, none⟩) (tl + 1) capt) w9) := Lib.hid (by
              rw [HPT.out]
              rw [if_neg (by simp)]
              exact HS9.out.with hO9)
            clear hO9
            go_wp2_with fail
            go_roundw
            case rel => exact ⟨j + 1, by go_num, hj, HX⟩
            case measure => simp [intOf]; omega
          · have HBX : Hid ((w7.alloc (.cells #[.int .i64 k7, .int .i64 i7, .int .i64 t7, .string s7, .slice A7 m7 c7] 24)).heap[w7.heap.size]? = some (.cells #[.int .i64 k7, .int .i64 i7, .int .i64 t7, .string s7, .slice A7 m7 c7] 24 (0, 0))) := Lib.hid (heap_alloc_new w7 _)
            have HV7 : Hid (SlF (w7.alloc (.cells #[.int .i64 k7, .int .i64 i7, .int .i64 t7, .string s7, .slice A7 m7 c7] 24)) (fun k => (P k ∨ (w5.alloc (.cells #[.int .i64 k3, .int .i64 i3, .int .i64 t3, .string s3, .slice A3 m3 c3] 24)).heap.size ≤ k) ∧ k < w7.heap.size) l7 (.slice A7 l7.length c7)) := Lib.hid (HS7.out.keep (fun k hk => Below.heap_alloc _ _ _ hk.2) (fun _ h => h))
            have HP7 : Hid (∀ k, (P k ∨ (w5.alloc (.cells #[.int .i64 k3, .int .i64 i3, .int .i64 t3, .string s3, .slice A3 m3 c3] 24)).heap.size ≤ k) ∧ k < w7.heap.size → k < (w7.alloc (.cells #[.int .i64 k7, .int .i64 i7, .int .i64 t7, .string s7, .slice A7 m7 c7] 24)).heap.size ∧ ∀ g, (Value.slice At tl ct).ownBlock = some g → k ≠ g) := Lib.hid (fun k hk => ⟨by simp; omega, fun g hg e => (HFOOT.out k hk).2.2 (by rw [hg, e])⟩)
            have hbx : (w7.alloc (.cells #[.int .i64 k7, .int .i64 i7, .int .i64 t7, .string s7, .slice A7 m7 c7] 24)).heap[w7.heap.size]? = some (.cells #[.int .i64 k7, .int .i64 i7, .int .i64 t7, .string s7, .slice A7 m7 c7] 24 (0, 0)) := HBX.out
            obtain ⟨x0, x1, x2, x3, x4⟩ := five_cells hbx
            have hltx : w7.heap.size < (w7.alloc (.cells #[.int .i64 k7, .int .i64 i7, .int .i64 t7, .string s7, .slice A7 m7 c7] 24)).heap.size := lt_of_blk' hbx
            have HWI : Hid (Calls Tryz.prog 49 #[.slice Am ml cm, .string q, .agg #[.int .i64 k7, .int .i64 i7, .int .i64 t7, .string s7, .slice A7 m7 c7]] ((w7.alloc (.cells #[.int .i64 k7, .int .i64 i7, .int .i64 t7, .string s7, .slice A7 m7 c7] 24))) fun e w' => ∃ v, e = .returned v ∧ OwnG (fun k => ∀ g, (Value.slice At tl ct).ownBlock = some g → k ≠ g) ((w7.alloc (.cells #[.int .i64 k7, .int .i64 i7, .int .i64 t7, .string s7, .slice A7 m7 c7] 24))) ((w7.alloc (.cells #[.int .i64 k7, .int .i64 i7, .int .i64 t7, .string s7, .slice A7 m7 c7] 24))).heap.size (mergedL lo la lb (N.take (j + 1))) v w') := Lib.hid (by
              have h := withG_any (G := fun k => ∀ g, (Value.slice At tl ct).ownBlock = some g → k ≠ g) (P := fun k => (P k ∨ (w5.alloc (.cells #[.int .i64 k3, .int .i64 i3, .int .i64 t3, .string s3, .slice A3 m3 c3] 24)).heap.size ≤ k) ∧ k < w7.heap.size) w2.heap.size w2 M q Am cm k7 i7 t7 s7 l7 A7 c7 M.length ((w7.alloc (.cells #[.int .i64 k7, .int .i64 i7, .int .i64 t7, .string s7, .slice A7 m7 c7] 24))) (by have := HST8.out.ownG; rw [← HML.out] at this; exact this) (by have := HML.out; omega) HV7.out HP7.out ⟨HQZ.out, hz7⟩ (fun _ => by rw [wo_end HU.out, ins_end]; exact asc_end HA2.out HU.out)
              rw [HRES.out, HML.out, ← HM7.out] at h
              exact h)
            clear hbx HBX HV7 HP7
            go_wp2_with fail
            refine HWI.out.mono ?_
            rintro e9 w9 ⟨v9, rfl, hO9⟩
            have HX : Hid (MgSt w2 (mergedL lo la lb (N.take (j + 1))) (tornL lo la lb (N.take (j + 1))) v9 (Value.slice At tl ct) w9) := Lib.hid (by
              rw [HPT.out]
              first | rw [if_pos rfl] | rw [if_pos trivial]
              exact HST8.out.with hO9)
            clear hO9
            go_wp2_with fail
            go_roundw
            case rel => exact ⟨j + 1, by go_num, hj, HX⟩
            case measure => simp [intOf]; omega
        · have p2 : ¬ (j : Int) < n := by omega
          have e1 : N.take j = N := List.take_of_length_le (by rw [← HN.out]; omega)
          rw [e1] at hM hT
          have hml : M.length = M.length := rfl
          have HF := Lib.hid (HR.out.lower HB2.out)
          have HE2 : Hid (err = if 20 < M.length then 4 else 0) := Lib.hid (by have := HE.out; rw [← hM] at this; simpa using this)
          have HBF := Lib.hid HBR2.out
          generalize hz : M.length = ml at HF HE2 ⊢
          clear h1 h2 h3 h4 h5
          by_cases hbig : 20 < ml
          · have p3 : (20 : Int) < ml := by omega
            go_wp2_with fail
            go_ret3
            have e3 : err = 4 := by have := HE2.out; rw [if_pos hbig] at this; exact this
            rw [e3]
            exact mergeGives_bad (by decide) HBF.out
          · have p3 : ¬ (20 : Int) < ml := by omega
            go_wp2_with fail
            go_ret3
            have e3 : err = 0 := by have := HE2.out; rw [if_neg hbig] at this; exact this
            rw [e3]
            exact ⟨_, _, rfl, by rw [if_pos rfl, if_pos rfl, ← hM, ← hT]; exact HF.out⟩
end Go.Proofs.YtggnocajpnmemaaGreatDoor
