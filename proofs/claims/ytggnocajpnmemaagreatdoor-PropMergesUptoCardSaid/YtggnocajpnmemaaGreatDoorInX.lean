/- slices.Insert at properties: copy of a row of several cells an element; a row of one's own with cells put into it. slices.Insert of one property: at the end; in the middle, with room and without. slices.Insert of one property in the middle: there is room (in place). slices.Insert of one property in the middle: there is no room (a new row). slices.Insert of one property into any list of one's own. -/
import Derived.Test.YtggnocajpnmemaaGreatDoorPeX
import Derived.Lib.SliceRun
import Derived.Lib.AppendZerosOnto
import Derived.Laws.NewBlocks
import Derived.Shelf.Spec.SlicesInsert
import Derived.Deep.AppendLies
import Derived.Lib.Overlaps
import Derived.Shelf.RegionOpenPlain
import Derived.Shelf.Spec.SlicesInsertGrow
namespace Go.Proofs.YtggnocajpnmemaaGreatDoor
open Go.RowKit Go.Shelf

theorem run_copy_row {P : Program} (w : World) (dT sT ty elem : TypeId) (b o dLen dCap : Nat) (a : Addr) (sLen sCap n size : Nat) (cs : List Value)
    (hu : P.underlying dT = some (.slice elem)) (hs : (P.info? elem).map (·.size) = some size) (hn : n = Nat.min sLen dLen) (hl : cs.length = n * size)
    (hsrc : ∀ j v, cs[j]? = some v → w.cell? (a.add j) = some v) (hc : ∀ j, j < cs.length → (w.cell? ⟨b, o + j, none⟩).isSome = true) (hf : ∀ j, j < cs.length → w.frozen? ⟨b, o + j, none⟩ = false) (h1 : ∀ v ∈ cs, v.oneCell' = true) :
    (Builtin.copy_ #[dT, sT] ty #[.slice (some ⟨b, o, none⟩) dLen dCap, .slice (some a) sLen sCap]).run P w = .ok (goInt n) (w.setCells b o cs) := by
  have hld := run_loadCells_list (P := P) w a cs hsrc
  have hst := run_storeCells_cells (P := P) b o cs 0 w (by simpa using hc) (by simpa using hf) h1
  rw [hl] at hld
  cases hq : P.info? elem with
  | none => simp [hq] at hs
  | some i =>
    have hi : i.size = size := by simpa [hq] using hs
    simp [Builtin.copy_, run_underlying hu, Builtin.lenOf, Builtin.firstCells, sizeOf, typeInfo, hq, hi, ← hn, hld, hst]
theorem own_putCells {b c base n : Nat} {e : TypeId} {size : Nat} : ∀ (vs : List Value) (o : Nat) (w : World) (xs : List Value), w.ownsRow base e size (.slice (some ⟨b, 0, none⟩) n c) n xs → o + vs.length ≤ xs.length →
    (w.setCells b o vs).ownsRow base e size (.slice (some ⟨b, 0, none⟩) n c) n (xs.take o ++ vs ++ xs.drop (o + vs.length)) ∧ w.grownBy (w.setCells b o vs) (some b)
  | [], o, w, xs, h, _ => ⟨by rw [List.append_nil, List.length_nil, Nat.add_zero, List.take_append_drop]; exact h, ⟨rfl, rfl, rfl, Nat.le_refl _, fun _ _ _ => rfl⟩⟩
  | v :: vs, o, w, xs, h, hl => by
    have s := h.stored o v
    simp only [List.length_cons] at hl
    obtain ⟨h1, h3⟩ := own_putCells vs (o + 1) _ _ s.1 (by rw [List.length_set]; omega)
    refine ⟨?_, ⟨h3.os.trans s.2.os, h3.tape.trans s.2.tape, h3.output.trans s.2.output, Nat.le_trans s.2.size h3.size, fun k hk hne => (h3.block k (Nat.lt_of_lt_of_le hk s.2.size) hne).trans (s.2.block k hk hne)⟩⟩
    have e1 : (xs.set o v).take (o + 1) = xs.take o ++ [v] := by
      rw [List.take_succ_eq_append_getElem (by rw [List.length_set]; omega), List.take_set_of_le (by omega)]
      simp
    have e2 : (xs.set o v).drop (o + 1 + vs.length) = xs.drop (o + (v :: vs).length) := by
      rw [List.drop_set_of_lt (by omega), List.length_cons]
      congr 1
      omega
    rw [e1, e2] at h1
    rw [show xs.take o ++ (v :: vs) = xs.take o ++ [v] ++ vs by simp]
    exact h1
theorem flat_take : ∀ (d : List PItem) (i : Nat), (d.take i).flatMap encI = (d.flatMap encI).take (i * 6)
  | [], i => by simp
  | x :: d, 0 => by simp
  | x :: d, i + 1 => by
    rw [List.take_succ_cons, List.flatMap_cons, List.flatMap_cons, flat_take d i, List.take_append, encI_len, List.take_of_length_le (l := encI x) (by rw [encI_len]; omega)]
    congr 2
    omega
theorem flat_drop : ∀ (d : List PItem) (i : Nat), (d.drop i).flatMap encI = (d.flatMap encI).drop (i * 6)
  | [], i => by simp
  | x :: d, 0 => by simp
  | x :: d, i + 1 => by
    rw [List.drop_succ_cons, List.flatMap_cons, flat_drop d i, List.drop_append, encI_len, List.drop_of_length_le (l := encI x) (by rw [encI_len]; omega), List.nil_append]
    congr 1
    omega
/-- What was put into a row of one's own is a list of one's own again. -/
theorem OwnAt.put {W w w' : World} {base : Nat} {m : List PV} {A : Option Addr} {c i gg cap : Nat} {F F2 : Nat → Prop} {xs : List Value} {x : PV} {A' : Option Addr} {c' : Nat}
    (h : OwnAt W base m (.slice A m.length c) w) (h1 : w.ownsRow base 65 6 (.slice A m.length c) m.length xs) (h2 : PRep w F m xs) (h3 : ∀ k, F k → k < w.heap.size) (h4 : ∀ g, (Value.slice A m.length c).ownBlock = some g → ¬ F g)
    (hi : i ≤ m.length) (hx : GoodI w F2 ⟨x, A', c'⟩) (hF2 : ∀ k, F2 k → k < w.heap.size ∧ (Value.slice A m.length c).ownBlock ≠ some k)
    (ho : w'.ownsRow base 65 6 (.slice (some ⟨gg, 0, none⟩) (m.length + 1) cap) (m.length + 1) (xs.take (i * 6) ++ encI ⟨x, A', c'⟩ ++ xs.drop (i * 6)))
    (hg : w.grownBy w' (Value.slice A m.length c).ownBlock) (hat : (Value.slice A m.length c).ownBlock = some gg ∨ w.heap.size ≤ gg) : OwnAt W base (insL m i x) (.slice (some ⟨gg, 0, none⟩) (m.length + 1) cap) w' := by
  have hle := h.le
  have hbel := h.bel
  obtain ⟨d, hd, hxs, hgood⟩ := h2.items
  subst hxs
  have hlt : ∀ g, (Value.slice A m.length c).ownBlock = some g → base ≤ g ∧ g < w.heap.size := fun g hg => h1.lt g hg
  refine ⟨⟨hg.os.trans hbel.os, hg.tape.trans hbel.tape, hg.output.trans hbel.output, Nat.le_trans hbel.size hg.size, fun k hk => (hg.block k (by omega) (fun e => by have := hlt k e.symm; omega)).trans (hbel.block k hk)⟩, Nat.le_trans hle hg.size, fun k => F k ∨ F2 k, _, by rw [insL_len']; exact ho, ?_, fun k hk => ?_, fun g hg2 => ?_⟩
  · have e1 : (d.flatMap encI).take (i * 6) ++ encI ⟨x, A', c'⟩ ++ (d.flatMap encI).drop (i * 6) = (d.take i ++ (⟨x, A', c'⟩ : PItem) :: d.drop i).flatMap encI := by
      rw [List.flatMap_append, List.flatMap_cons, flat_take, flat_drop, List.append_assoc]
    have e2 : insL m i x = (d.take i ++ (⟨x, A', c'⟩ : PItem) :: d.drop i).map (·.p) := by
      rw [List.map_append, List.map_cons, List.map_take, List.map_drop, hd]; rfl
    rw [e1, e2]
    refine rep_of_items _ (fun y hy => ?_)
    have hk : ∀ y, GoodI w F y → GoodI w' (fun k => F k ∨ F2 k) y := fun y hy => by
      obtain ⟨⟨nm, ⟨k, i, t, s, l⟩⟩, A, c⟩ := y
      exact ⟨hy.1, hy.2.1, hy.2.2.keep (fun b hb => hg.block b (h3 b hb) (fun e => h4 b e.symm hb)) (fun _ h => .inl h)⟩
    rcases List.mem_append.1 hy with hy | hy
    · exact hk y (hgood y (List.mem_of_mem_take hy))
    · rcases List.mem_cons.1 hy with rfl | hy
      · obtain ⟨nm, ⟨k, i, t, s, l⟩⟩ := x
        exact ⟨hx.1, hx.2.1, hx.2.2.keep (fun b hb => hg.block b (hF2 b hb).1 (fun e => (hF2 b hb).2 e.symm)) (fun _ h => .inr h)⟩
      · exact hk y (hgood y (List.mem_of_mem_drop hy))
  · have hsz := hg.size
    rcases hk with hk | hk
    · have := h3 k hk; omega
    · have := (hF2 k hk).1; omega
  · simp only [Value.ownBlock, Option.some.injEq] at hg2
    subst hg2
    rcases hat with e | e
    · rintro (h5 | h5)
      · exact h4 _ e h5
      · exact (hF2 _ h5).2 e
    · rintro (h5 | h5)
      · have := h3 _ h5; omega
      · have := (hF2 _ h5).1; omega
end Go.Proofs.YtggnocajpnmemaaGreatDoor
namespace Go.Proofs.YtggnocajpnmemaaGreatDoor
open Go.RowKit Go.Shelf Go.Lib

def Inserted (w : World) (base : Nat) (v : Value) (n : Nat) (ys : List Value) (e : Ending) (w' : World) : Prop :=
  ∃ gg cap, e = .returned (.slice (some ⟨gg, 0, none⟩) (n + 1) cap) ∧ w'.ownsRow base 65 6 (.slice (some ⟨gg, 0, none⟩) (n + 1) cap) (n + 1) ys ∧ w.grownBy w' v.ownBlock ∧ (v.ownBlock = some gg ∨ w.heap.size ≤ gg)

set_option maxRecDepth 100000 in
set_option maxHeartbeats 8000000 in
theorem propInsert_none (base vb : Nat) (cs : Array Value) (w : World) (hb : base ≤ w.heap.size) (hs : cs.size = 6) (hvb : w.heap[vb]? = some (.cells cs 65 (0, 0))) (hone : ∀ u ∈ cs.toList, u.oneCell' = true) :
    Calls Tryz.prog 47 #[.slice none 0 0, .int .i64 0, .slice (some ⟨vb, 0, none⟩) 1 1] w (Inserted w base (.slice none 0 0) 0 cs.toList) := by
  obtain ⟨i0, hi0, hz0, hz1, hz2⟩ := info_parts infoPr
  have HN := Lib.hid (World.news_of_block hvb)
  have H1 := Lib.hid hone
  have HS : Hid (cs.toList.length = 1 * 6) := Lib.hid (by simpa using hs)
  have HB := Lib.hid hb
  clear hvb hone hs
  go_enter Tryz.func47, Tryz.ntmps47
  go_wp2_with (at_builtin; refine wpList_append_lies _ rfl _ _ 31 rfl base 65 i0 _ 6 80 Tryz.underlying31 hi0 hz0 hz1 hz2 rfl (by omega) (.slice none 0 0) 0 [] rfl (World.ownsRow_nil _ _ _ _) ⟨vb, 0, none⟩ 1 1 cs.toList rfl HS.out HN.out H1.out (by omega) (by unfold maxLen; omega) (by omega) HB.out w.heap.size rfl ?_)
  intro gg cap w4 ho4 hg4 hat4 hlt4
  have HX : Hid (Inserted w base (.slice none 0 0) 0 cs.toList (.returned (.slice (some ⟨gg, 0, none⟩) 1 cap)) w4) := Lib.hid ⟨gg, cap, rfl, by simpa using ho4, hg4, by rcases hat4 with h | h; exact .inl h; exact .inr (by omega)⟩
  clear ho4 hg4 hat4
  go_wp2_with fail
  go_ret
  exact HX.out
set_option maxRecDepth 100000 in
set_option maxHeartbeats 8000000 in
theorem propInsert_end (base vb g n c : Nat) (xs : List Value) (cs : Array Value) (w : World) (hn : n ≤ 1048576) (hb : base ≤ w.heap.size) (ho : w.ownsRow base 65 6 (.slice (some ⟨g, 0, none⟩) n c) n xs) (hs : cs.size = 6) (hvb : w.heap[vb]? = some (.cells cs 65 (0, 0))) (hone : ∀ u ∈ cs.toList, u.oneCell' = true) :
    Calls Tryz.prog 47 #[.slice (some ⟨g, 0, none⟩) n c, .int .i64 n, .slice (some ⟨vb, 0, none⟩) 1 1] w (Inserted w base (.slice (some ⟨g, 0, none⟩) n c) n (xs ++ cs.toList)) := by
  obtain ⟨i0, hi0, hz0, hz1, hz2⟩ := info_parts infoPr
  have HN := Lib.hid (World.news_of_block hvb)
  have H1 := Lib.hid hone
  have HS : Hid (cs.toList.length = 1 * 6) := Lib.hid (by simpa using hs)
  have HB := Lib.hid hb
  have HO := Lib.hid ho
  have hnc : n ≤ c ∧ c ≤ 9223372036854775807 := by
    rcases ho.2 with ⟨h', _⟩ | ⟨g', cap', cur, h', hb', hg', hnc', hcm', hcs', htake'⟩
    · simp at h'
    · simp only [Value.slice.injEq, Option.some.injEq, Addr.mk.injEq, and_true, true_and] at h'
      obtain ⟨rfl, rfl⟩ := h'
      exact ⟨hnc', by unfold maxLen at hcm'; omega⟩
  obtain ⟨hnc1, hnc2⟩ := hnc
  clear hvb hone hs ho
  go_enter Tryz.func47, Tryz.ntmps47
  go_wp2_with (at_builtin; refine wpList_append_lies _ rfl _ _ 31 rfl base 65 i0 _ 6 80 Tryz.underlying31 hi0 hz0 hz1 hz2 rfl (by omega) (.slice (some ⟨g, 0, none⟩) n c) n xs rfl HO.out ⟨vb, 0, none⟩ 1 1 cs.toList rfl HS.out HN.out H1.out (by omega) (by unfold maxLen; omega) (by omega) HB.out w.heap.size rfl ?_)
  all_goals (
    intro gg cap w4 ho4 hg4 hat4 hlt4
    have HX : Hid (Inserted w base (.slice (some ⟨g, 0, none⟩) n c) n (xs ++ cs.toList) (.returned (.slice (some ⟨gg, 0, none⟩) (n + 1) cap)) w4) := Lib.hid ⟨gg, cap, rfl, ho4, hg4, by rcases hat4 with h | h; exact .inl h; exact .inr (by omega)⟩
    clear ho4 hg4 hat4
    go_wp2_with fail
    go_ret
    exact HX.out)
end Go.Proofs.YtggnocajpnmemaaGreatDoor
namespace Go.Proofs.YtggnocajpnmemaaGreatDoor
open Go.RowKit Go.Shelf Go.Lib

/-- A row of one's own with one element more, as it lies. -/
theorem own_more {w : World} {base g n c : Nat} {e : TypeId} {xs : List Value} (h : w.ownsRow base e 6 (.slice (some ⟨g, 0, none⟩) n c) n xs) (hc : n + 1 ≤ c) :
    ∃ ys, w.ownsRow base e 6 (.slice (some ⟨g, 0, none⟩) (n + 1) c) (n + 1) ys ∧ ys.take (n * 6) = xs := by
  rcases h.2 with ⟨h', _⟩ | ⟨g', cap', cur, h', hb, hg, hnc, hcm, hcs, htake⟩
  · simp at h'
  · simp only [Value.slice.injEq, Option.some.injEq, Addr.mk.injEq, and_true, true_and] at h'
    obtain ⟨rfl, rfl⟩ := h'
    refine ⟨cur.toList.take ((n + 1) * 6), ⟨by rw [List.length_take]; simp; omega, .inr ⟨g, c, cur, rfl, hb, hg, hc, hcm, hcs, rfl⟩⟩, ?_⟩
    rw [List.take_take, Nat.min_eq_left (by omega)]
    exact htake

set_option maxRecDepth 100000 in
set_option maxHeartbeats 8000000 in
theorem propInsert_shift (base vb g n c i : Nat) (xs : List Value) (cs : Array Value) (w : World) (hi : i < n) (hn : n ≤ 1048576) (hroom : n + 1 ≤ c) (ho : w.ownsRow base 65 6 (.slice (some ⟨g, 0, none⟩) n c) n xs) (hx1 : ∀ u ∈ xs, u.oneCell' = true)
    (hs : cs.size = 6) (hvb : w.heap[vb]? = some (.cells cs 65 (0, 0))) (hone : ∀ u ∈ cs.toList, u.oneCell' = true) (hvg : vb ≠ g) :
    Calls Tryz.prog 47 #[.slice (some ⟨g, 0, none⟩) n c, .int .i64 i, .slice (some ⟨vb, 0, none⟩) 1 1] w (Inserted w base (.slice (some ⟨g, 0, none⟩) n c) n (xs.take (i * 6) ++ cs.toList ++ xs.drop (i * 6))) := by
  have hx2 := ho.1
  have hsz : (Tryz.prog.info? 65).map (·.size) = some 6 := by
    obtain ⟨i0, hi0, hz0, hz1, hz2⟩ := info_parts infoPr
    rw [hi0]; simp [hz1]
  obtain ⟨ys, hy, hyt⟩ := own_more ho hroom
  have hyl := hy.1
  have hcm : c ≤ 9223372036854775807 := by
    rcases ho.2 with ⟨h', _⟩ | ⟨g', cap', cur, h', hb', hg', hnc', hcm', hcs', htake'⟩
    · simp at h'
    · simp only [Value.slice.injEq, Option.some.injEq, Addr.mk.injEq, and_true, true_and] at h'
      obtain ⟨rfl, rfl⟩ := h'
      unfold maxLen at hcm'; omega
  obtain ⟨cur, hgb, hcz⟩ : ∃ cur, w.heap[g]? = some (.cells cur 65 (0, 0)) ∧ cur.size = c * 6 := by
    rcases ho.2 with ⟨h', _⟩ | ⟨g', cap', cur, h', hb', hg', hnc', hcm', hcs', htake'⟩
    · simp at h'
    · simp only [Value.slice.injEq, Option.some.injEq, Addr.mk.injEq, and_true, true_and] at h'
      obtain ⟨rfl, rfl⟩ := h'
      exact ⟨cur, hg', hcs'⟩
  have hov : ∀ lb cb, (callFunc 107 #[.slice (some ⟨vb, 0, none⟩) 1 1, .slice (some ⟨g, (i + 1) * 6, none⟩) lb cb]).run Tryz.prog w = .ok (.value (.bool false)) w := fun lb cb => by
    rw [run_callFunc_extern Tryz.func107 (by kernel_rfl) (by kernel_rfl) (by kernel_rfl) (e := Extern.SlicesOverlaps.overlaps #[31, 31] #[4]) (by kernel_rfl),
      Lib.run_overlaps_apart w 31 4 65 Tryz.underlying31 6 szPr ⟨vb, 0, none⟩ ⟨g, (i + 1) * 6, none⟩ 1 1 lb cb hvg 65 65 cs.size cur.size (by simp [World.shape?, hvb]) (by simp [World.shape?, hgb]) (by rw [hcz]; omega) (by simp [World.frozen?, hvb]) (by simp [World.frozen?, hvb])]
    rfl
  have hdl : (xs.drop (i * 6)).length = (n - i) * 6 := by rw [List.length_drop, hx2]; omega
  have hcp1 : ∀ ty dc sc, (Builtin.copy_ #[31, 31] ty #[.slice (some ⟨g, (i + 1) * 6, none⟩) (n - i) dc, .slice (some ⟨g, i * 6, none⟩) (n + 1 - i) sc]).run Tryz.prog w.drew = .ok (goInt ((n - i : Nat) : Int)) (w.drew.setCells g ((i + 1) * 6) (xs.drop (i * 6))) := fun ty dc sc =>
    run_copy_row w.drew _ _ ty 65 g ((i + 1) * 6) (n - i) dc ⟨g, i * 6, none⟩ (n + 1 - i) sc (n - i) 6 (xs.drop (i * 6)) Tryz.underlying31 hsz (by simp only [Nat.min_def]; split <;> omega) hdl
      (fun j v hj => by
        rw [Addr.add_lit]
        have hjl : i * 6 + j < n * 6 := by
          have := (List.getElem?_eq_some_iff.1 hj).1
          omega
        have h1 := ho.cellAt (i * 6 + j) hjl
        rw [List.getElem?_drop] at hj
        exact h1.trans hj)
      (fun j hj => by
        have h1 := hy.cellAt ((i + 1) * 6 + j) (by omega)
        show (w.cell? _).isSome = true
        rw [h1, List.getElem?_eq_getElem (by omega)]; rfl)
      (fun j hj => ho.frozenAt _) (fun v hv => hx1 v (List.mem_of_mem_drop hv))
  have hy' : w.drew.ownsRow base 65 6 (.slice (some ⟨g, 0, none⟩) (n + 1) c) (n + 1) ys := hy
  have hp1 := own_putCells (xs.drop (i * 6)) ((i + 1) * 6) w.drew ys hy' (by omega)
  have e1 : ys.drop ((i + 1) * 6 + (xs.drop (i * 6)).length) = [] := List.drop_of_length_le (by omega)
  rw [e1, List.append_nil] at hp1
  obtain ⟨W1, hW1⟩ : ∃ W1, W1 = w.drew.setCells g ((i + 1) * 6) (xs.drop (i * 6)) := ⟨_, rfl⟩
  rw [← hW1] at hcp1 hp1
  have hvb1 : W1.heap[vb]? = some (.cells cs 65 (0, 0)) := (hp1.2.block vb (lt_of_blk' hvb) (by simpa using hvg)).trans hvb
  have hnews := World.news_of_block hvb1
  have hcp2 : ∀ ty dc, (Builtin.copy_ #[31, 31] ty #[.slice (some ⟨g, i * 6, none⟩) (n + 1 - i) dc, .slice (some ⟨vb, 0, none⟩) 1 1]).run Tryz.prog W1 = .ok (goInt ((1 : Nat) : Int)) (W1.setCells g (i * 6) cs.toList) := fun ty dc =>
    run_copy_row W1 _ _ ty 65 g (i * 6) (n + 1 - i) dc ⟨vb, 0, none⟩ 1 1 1 6 cs.toList Tryz.underlying31 hsz (by simp only [Nat.min_def]; split <;> omega) (by simpa using hs)
      hnews
      (fun j hj => by
        have hj6 : j < 6 := by simpa [hs] using hj
        have hl1 := hp1.1.1
        rw [hp1.1.cellAt (i * 6 + j) (by omega), List.getElem?_eq_getElem (by omega)]; rfl)
      (fun j hj => hp1.1.frozenAt _) hone
  have hp2 := own_putCells cs.toList (i * 6) W1 _ hp1.1 (by have := hp1.1.1; rw [this]; simp [hs]; omega)
  have e2 : (ys.take ((i + 1) * 6) ++ xs.drop (i * 6)).take (i * 6) = xs.take (i * 6) := by
    rw [List.take_append_of_le_length (by rw [List.length_take]; omega), List.take_take, Nat.min_eq_left (by omega), ← hyt, List.take_take, Nat.min_eq_left (by omega)]
  have e3 : (ys.take ((i + 1) * 6) ++ xs.drop (i * 6)).drop (i * 6 + cs.toList.length) = xs.drop (i * 6) := by
    have h6 : i * 6 + cs.toList.length = (ys.take ((i + 1) * 6)).length := by rw [List.length_take]; simp [hs]; omega
    rw [h6, List.drop_left]
  rw [e2, e3] at hp2
  have HX : Hid (Inserted w base (.slice (some ⟨g, 0, none⟩) n c) n (xs.take (i * 6) ++ cs.toList ++ xs.drop (i * 6)) (.returned (.slice (some ⟨g, 0, none⟩) (n + 1) c)) (W1.setCells g (i * 6) cs.toList)) := Lib.hid (by
    refine ⟨g, c, rfl, hp2.1, ?_, .inl rfl⟩
    exact ⟨hp2.2.os.trans hp1.2.os, hp2.2.tape.trans hp1.2.tape, hp2.2.output.trans hp1.2.output, Nat.le_trans hp1.2.size hp2.2.size, fun k hk hne => (hp2.2.block k (Nat.lt_of_lt_of_le hk hp1.2.size) hne).trans (hp1.2.block k hk hne)⟩)
  generalize (xs.take (i * 6) ++ cs.toList ++ xs.drop (i * 6)) = zs at HX ⊢
  have mixed : Tryz.prog.follows Departure.mixedOrders = true := by kernel_rfl
  have hz2 : ¬ ((i : Int) = (n : Int)) := by omega
  have hw1 : IntKind.i64.wrap ((i : Int) + 1) = (i : Int) + 1 := by rw [IntKind.wrap_i64]; omega
  have hw2 : IntKind.i64.wrap ((n : Int) + 1) = (n : Int) + 1 := by rw [IntKind.wrap_i64]; omega
  have hb1 : (0 : Int) ≤ (i : Int) + 1 := by omega
  have hin : i ≤ n := by omega
  have htn : ((i : Int) + 1).toNat = i + 1 := by omega
  have hb2 : ¬ (c = i + 1) := by omega
  have hb3 : (i : Int) ≤ (n : Int) + 1 := by omega
  have hb4 : ¬ (c = i) := by omega
  subst hW1
  clear hx1 hvb hone hvb1 hnews hp1 hp2 e1 e2 e3 hy hy' hyt hdl ho hgb
  go_enter Tryz.func47, Tryz.ntmps47
  go_wp2_with (simp only [hov])
  go_region_law_o (refine step_copy_runI rfl _ _ 31 31 rfl _ _ (by simp [Act.eval, Act.put]) (by simp [Act.eval, Act.put]) (hcp1 _ _ _) ?_)
  go_wp2_with (at_builtin; refine wpList_copy_runI _ rfl _ _ 31 31 rfl _ _ rfl rfl (hcp2 _ _) ?_)
  go_ret
  exact HX.out
end Go.Proofs.YtggnocajpnmemaaGreatDoor
namespace Go.Proofs.YtggnocajpnmemaaGreatDoor
open Go.RowKit Go.Shelf Go.Lib

set_option maxRecDepth 100000 in
set_option maxHeartbeats 8000000 in
theorem propInsert_grow (base vb g n c i : Nat) (xs : List Value) (cs : Array Value) (w : World) (hi : i < n) (hn : n ≤ 1048576) (hroom : c < n + 1) (hb : base ≤ w.heap.size) (ho : w.ownsRow base 65 6 (.slice (some ⟨g, 0, none⟩) n c) n xs) (hx1 : ∀ u ∈ xs, u.oneCell' = true)
    (hs : cs.size = 6) (hvb : w.heap[vb]? = some (.cells cs 65 (0, 0))) (hone : ∀ u ∈ cs.toList, u.oneCell' = true) :
    Calls Tryz.prog 47 #[.slice (some ⟨g, 0, none⟩) n c, .int .i64 i, .slice (some ⟨vb, 0, none⟩) 1 1] w (Inserted w base (.slice (some ⟨g, 0, none⟩) n c) n (xs.take (i * 6) ++ cs.toList ++ xs.drop (i * 6))) := by
  have hx2 := ho.1
  obtain ⟨i0, hi0, hz0, hz1, hz2⟩ := info_parts infoPr
  have hsz : (Tryz.prog.info? 65).map (·.size) = some 6 := by rw [hi0]; simp [hz1]
  have hnc : n ≤ c := by
    rcases ho.2 with ⟨h', _⟩ | ⟨g', cap', cur, h', hb', hg', hnc', hcm', hcs', htake'⟩
    · simp at h'
    · simp only [Value.slice.injEq, Option.some.injEq, Addr.mk.injEq, and_true, true_and] at h'
      obtain ⟨rfl, rfl⟩ := h'
      exact hnc'
  have hgw := (ho.lt g rfl).2
  have hvw := lt_of_blk' hvb
  have hold : (Builtin.firstCells i0.size i (.slice (some ⟨g, 0, none⟩) i c)).run Tryz.prog w.drew = .ok (xs.take (i * 6)).toArray w.drew := by
    rw [hz1]
    exact run_firstCells_some w.drew 6 i ⟨g, 0, none⟩ i c (xs.take (i * 6)) (by rw [List.length_take]; omega) (fun j v hj => by
      rw [Addr.add_lit]
      rw [List.getElem?_take] at hj
      split at hj
      · rw [Nat.zero_add]
        have h1 := ho.cellAt j (by omega)
        exact h1.trans hj
      · cases hj)
  have hik : i + (n + 1 - i) = n + 1 := by omega
  have hkk : (n : Int) + 1 - (i : Int) = ((n + 1 - i : Nat) : Int) := by omega
  have hrz : ∀ ty, (Builtin.append_ #[31, 3] ty #[.slice (some ⟨g, 0, none⟩) i c, .int .i64 ((n : Int) + 1 - (i : Int))]).run Tryz.prog w =
      .ok (.slice (some ⟨w.heap.size, 0, none⟩) (n + 1) (grownCap w (n + 1) c 65)) (w.drew.alloc (.cells ((xs.take (i * 6)).toArray ++ Builtin.zeroCells zeroPr.cells (n + 1 - i) ++ Builtin.zeroCells zeroPr.cells (grownCap w (n + 1) c 65 - (n + 1))) 65)) := fun ty => by
    have h := Lib.run_append_grow_zeros w 31 3 ty 65 i0 zeroPr .i64 .i64 Tryz.underlying31 Tryz.underlying3 hi0 hz0 (some ⟨g, 0, none⟩) i c (xs.take (i * 6)) hold (n + 1 - i) (by omega) (by omega) (by omega) (by omega) (by rw [hz2]; omega) (by rw [hz2, hik]; exact growslice_fits hroom (by omega))
    rw [hik] at h
    rw [hkk]
    exact h
  obtain ⟨G, hG⟩ : ∃ G, G = grownCap w (n + 1) c 65 := ⟨_, rfl⟩
  have hGn : n + 1 ≤ G := by rw [hG]; exact grownCap_ge w _ _ _
  have hGm : G ≤ maxLen := by
    have := grownCap_le_maxLen w (n + 1) c 65 (by unfold maxLen; omega)
    rwa [← hG] at this
  have hG63 : G ≤ 9223372036854775807 := by unfold maxLen at hGm; omega
  obtain ⟨ROW, hROW⟩ : ∃ ROW : Array Value, ROW = (xs.take (i * 6)).toArray ++ Builtin.zeroCells zeroPr.cells (n + 1 - i) ++ Builtin.zeroCells zeroPr.cells (G - (n + 1)) := ⟨_, rfl⟩
  have zl : ∀ k, (Builtin.zeroCells zeroPr.cells k).size = k * 6 := fun k => by have := zeroPr_len k; simpa using this
  have hRz : ROW.size = G * 6 := by
    rw [hROW, Array.size_append, Array.size_append, zl, zl]
    simp [List.length_take]
    omega
  have hRt : ROW.toList.take ((n + 1) * 6) = xs.take (i * 6) ++ (Builtin.zeroCells zeroPr.cells (n + 1 - i)).toList := by
    rw [hROW, Array.toList_append, Array.toList_append, List.take_append_of_le_length (by simp [zl, List.length_take]; omega)]
    exact List.take_of_length_le (by simp [zl, List.length_take]; omega)
  rw [← hG] at hrz
  rw [← hROW] at hrz
  obtain ⟨Bn, hBn⟩ : ∃ Bn, Bn = w.heap.size := ⟨_, rfl⟩
  have hown0 : (w.alloc (.cells ROW 65)).drew.ownsRow base 65 6 (.slice (some ⟨Bn, 0, none⟩) (n + 1) G) (n + 1) (xs.take (i * 6) ++ (Builtin.zeroCells zeroPr.cells (n + 1 - i)).toList) :=
    ⟨by simp [zl, List.length_take]; omega, .inr ⟨Bn, G, ROW, rfl, by omega, by rw [hBn]; exact heap_alloc_new w _, hGn, hGm, hRz, hRt⟩⟩
  have hp1 := own_putCells cs.toList (i * 6) _ _ hown0 (by simp [zl, List.length_take, hs]; omega)
  have e1 : (xs.take (i * 6) ++ (Builtin.zeroCells zeroPr.cells (n + 1 - i)).toList).take (i * 6) = xs.take (i * 6) := by
    rw [List.take_append_of_le_length (by rw [List.length_take]; omega), List.take_take, Nat.min_self]
  rw [e1] at hp1
  obtain ⟨zz, hzz⟩ : ∃ zz, zz = (xs.take (i * 6) ++ (Builtin.zeroCells zeroPr.cells (n + 1 - i)).toList).drop (i * 6 + cs.toList.length) := ⟨_, rfl⟩
  rw [← hzz] at hp1
  have hzl : zz.length = (n - i) * 6 := by
    rw [hzz, List.length_drop]
    simp [zl, List.length_take, hs]
    omega
  have hdl : (xs.drop (i * 6)).length = (n - i) * 6 := by rw [List.length_drop, hx2]; omega
  have hown1 : ((w.alloc (.cells ROW 65)).drew.setCells Bn (i * 6) cs.toList).drew.ownsRow base 65 6 (.slice (some ⟨Bn, 0, none⟩) (n + 1) G) (n + 1) (xs.take (i * 6) ++ cs.toList ++ zz) := hp1.1
  have hp2 := own_putCells (xs.drop (i * 6)) ((i + 1) * 6) _ _ hown1 (by rw [hown1.1]; omega)
  have e2 : (xs.take (i * 6) ++ cs.toList ++ zz).take ((i + 1) * 6) = xs.take (i * 6) ++ cs.toList := List.take_left' (by simp [List.length_take, hs]; omega)
  have e3 : (xs.take (i * 6) ++ cs.toList ++ zz).drop ((i + 1) * 6 + (xs.drop (i * 6)).length) = [] := List.drop_of_length_le (by rw [hown1.1]; omega)
  rw [e2, e3, List.append_nil] at hp2
  have HX : Hid (Inserted w base (.slice (some ⟨g, 0, none⟩) n c) n (xs.take (i * 6) ++ cs.toList ++ xs.drop (i * 6)) (.returned (.slice (some ⟨Bn, 0, none⟩) (n + 1) G)) (((w.alloc (.cells ROW 65)).drew.setCells Bn (i * 6) cs.toList).drew.setCells Bn ((i + 1) * 6) (xs.drop (i * 6)))) := Lib.hid (by
    refine ⟨Bn, G, rfl, hp2.1, ?_, .inr (by omega)⟩
    have hsz1 := hp1.2.size
    have hsz2 := hp2.2.size
    refine ⟨hp2.2.os.trans hp1.2.os, hp2.2.tape.trans hp1.2.tape, hp2.2.output.trans hp1.2.output, ?_, fun k hk hne => ?_⟩
    · have e : (w.alloc (.cells ROW 65)).drew.heap.size = w.heap.size + 1 := by simp
      have e' : ((w.alloc (.cells ROW 65)).drew.setCells Bn (i * 6) cs.toList).drew.heap.size = ((w.alloc (.cells ROW 65)).drew.setCells Bn (i * 6) cs.toList).heap.size := rfl
      omega
    · have h0 : (w.alloc (.cells ROW 65)).drew.heap[k]? = w.heap[k]? := Below.heap_alloc _ _ _ hk
      have hk1 : k < (w.alloc (.cells ROW 65)).drew.heap.size := by simp; omega
      have hne2 : some k ≠ some Bn := by simp; omega
      exact (hp2.2.block k (Nat.lt_of_lt_of_le hk1 hsz1) hne2).trans ((hp1.2.block k hk1 hne2).trans h0))
  have hW1c : ∀ j, j < (n + 1) * 6 → ((w.drew.alloc (.cells ROW 65)).cell? ⟨Bn, j, none⟩).isSome = true := fun j hj => by
    rw [hBn, World.cell?_alloc_at (w := w.drew) ROW _ w.heap.size j rfl, Array.getElem?_eq_getElem (by omega)]; rfl
  have hW1f : ∀ j, (w.drew.alloc (.cells ROW 65)).frozen? ⟨Bn, j, none⟩ = false := fun j => by rw [hBn]; exact World.frozen?_alloc_at (w := w.drew) ROW _ w.heap.size j rfl
  have hOg : ∀ j v, w.cell? ⟨g, j, none⟩ = some v → (w.drew.alloc (.cells ROW 65)).cell? ⟨g, j, none⟩ = some v := fun j v h => by rw [World.cell?_alloc_past (w := w.drew) _ g j hgw]; exact h
  have hOv : ∀ j v, w.cell? ⟨vb, j, none⟩ = some v → (w.drew.alloc (.cells ROW 65)).cell? ⟨vb, j, none⟩ = some v := fun j v h => by rw [World.cell?_alloc_past (w := w.drew) _ vb j hvw]; exact h
  have hnews := World.news_of_block hvb
  have hcpA : ∀ (W : World), (∀ x, W.cell? x = (w.drew.alloc (.cells ROW 65)).cell? x) → (∀ x, W.frozen? x = (w.drew.alloc (.cells ROW 65)).frozen? x) → ∀ ty dc, (Builtin.copy_ #[31, 31] ty #[.slice (some ⟨Bn, i * 6, none⟩) (n + 1 - i) dc, .slice (some ⟨vb, 0, none⟩) 1 1]).run Tryz.prog W = .ok (goInt ((1 : Nat) : Int)) (W.setCells Bn (i * 6) cs.toList) := fun W hWc hWf ty dc =>
    run_copy_row W _ _ ty 65 Bn (i * 6) (n + 1 - i) dc ⟨vb, 0, none⟩ 1 1 1 6 cs.toList Tryz.underlying31 hsz (by simp only [Nat.min_def]; split <;> omega) (by simpa using hs)
      (fun j v hj => by
        have h1 := hnews j v hj
        rw [Addr.add_lit] at h1 ⊢
        rw [hWc]
        exact hOv _ v h1)
      (fun j hj => by rw [hWc]; exact hW1c _ (by have : j < 6 := by simpa [hs] using hj
                                                 omega))
      (fun j hj => by rw [hWf]; exact hW1f _) hone
  have hgB : g ≠ Bn := by omega
  have hcpB : ∀ (W : World), (∀ x, W.cell? x = ((w.drew.alloc (.cells ROW 65)).setCells Bn (i * 6) cs.toList).cell? x) → (∀ x, W.frozen? x = ((w.drew.alloc (.cells ROW 65)).setCells Bn (i * 6) cs.toList).frozen? x) → ∀ ty dc sc, (Builtin.copy_ #[31, 31] ty #[.slice (some ⟨Bn, (i + 1) * 6, none⟩) (n - i) dc, .slice (some ⟨g, i * 6, none⟩) (n - i) sc]).run Tryz.prog W = .ok (goInt ((n - i : Nat) : Int)) (W.setCells Bn ((i + 1) * 6) (xs.drop (i * 6))) := fun W hWc hWf ty dc sc =>
    run_copy_row W _ _ ty 65 Bn ((i + 1) * 6) (n - i) dc ⟨g, i * 6, none⟩ (n - i) sc (n - i) 6 (xs.drop (i * 6)) Tryz.underlying31 hsz (by simp only [Nat.min_def]; split <;> omega) hdl
      (fun j v hj => by
        have hjl : i * 6 + j < n * 6 := by
          have := (List.getElem?_eq_some_iff.1 hj).1
          omega
        have h1 := ho.cellAt (i * 6 + j) hjl
        rw [List.getElem?_drop] at hj
        rw [Addr.add_lit, hWc, World.cell?_setCells_out _ _ _ _ _ (fun h _ => absurd h hgB)]
        exact hOg _ v (h1.trans hj))
      (fun j hj => by rw [hWc]; exact isSome_setCells _ _ _ _ (fun t ht => hW1c _ (by have : t < 6 := by simpa [hs] using ht
                                                                                      omega)) _ (hW1c _ (by omega)))
      (fun j hj => by rw [hWf, World.frozen?_setCells]; exact hW1f _) (fun v hv => hx1 v (List.mem_of_mem_drop hv))
  have hE1 : ∀ x, ((w.alloc (.cells ROW 65)).drew).cell? x = (w.drew.alloc (.cells ROW 65)).cell? x := fun x => rfl
  have hE2 : ∀ x, ((w.alloc (.cells ROW 65)).drew).frozen? x = (w.drew.alloc (.cells ROW 65)).frozen? x := fun x => rfl
  have hF1 : ∀ x, (((w.alloc (.cells ROW 65)).drew.setCells Bn (i * 6) cs.toList).drew).cell? x = ((w.drew.alloc (.cells ROW 65)).setCells Bn (i * 6) cs.toList).cell? x := fun x => rfl
  have hF2 : ∀ x, (((w.alloc (.cells ROW 65)).drew.setCells Bn (i * 6) cs.toList).drew).frozen? x = ((w.drew.alloc (.cells ROW 65)).setCells Bn (i * 6) cs.toList).frozen? x := fun x => rfl
  subst hBn
  generalize (xs.take (i * 6) ++ cs.toList ++ xs.drop (i * 6)) = zs at HX ⊢
  have mixed : Tryz.prog.follows Departure.mixedOrders = true := by kernel_rfl
  have hz3 : ¬ ((i : Int) = (n : Int)) := by omega
  have hz4 : (c : Int) < (n : Int) + 1 := by omega
  have hw1 : IntKind.i64.wrap ((i : Int) + 1) = (i : Int) + 1 := by rw [IntKind.wrap_i64]; omega
  have hb1 : (0 : Int) ≤ (i : Int) + 1 := by omega
  have hin : i ≤ n := by omega
  have htn : ((i : Int) + 1).toNat = i + 1 := by omega
  have hb3 : (i : Int) ≤ (n : Int) := by omega
  have hGi : ¬ (G = i) := by omega
  have hGim : ¬ (G = i + 1) := by omega
  have hci : ¬ (c = i) := by omega
  clear hx1 hvb hone hnews hp1 hp2 e1 e2 e3 hown0 hown1 hzz hzl hdl ho hW1c hW1f hOg hOv hRt hRz hROW hG hold hik hkk
  go_enter Tryz.func47, Tryz.ntmps47
  go_wp2_with (first
    | (at_builtin; refine Lib.wpList_append_run _ rfl _ _ _ _ rfl _ _ rfl rfl _ _ (hrz _) ?_)
    | (at_builtin; refine wpList_copy_runI _ rfl _ _ 31 31 rfl _ _ rfl rfl (hcpA _ hE1 hE2 _ _) ?_))
  go_region_law_o (refine step_copy_runI rfl _ _ 31 31 rfl (.slice (some ⟨w.heap.size, (i + 1) * 6, none⟩) (n - i) (G - (i + 1))) (.slice (some ⟨g, i * 6, none⟩) (n - i) (c - i)) (by simp [Act.eval, Act.put]) (by simp [Act.eval, Act.put]) (hcpB _ hF1 hF2 3 (G - (i + 1)) (c - i)) ?_)
  go_wp2
  go_ret
  exact HX.out
end Go.Proofs.YtggnocajpnmemaaGreatDoor
namespace Go.Proofs.YtggnocajpnmemaaGreatDoor
open Go.RowKit Go.Shelf

theorem inserted_own {W w : World} {base : Nat} {m : List PV} {A : Option Addr} {c r : Nat} {F F2 : Nat → Prop} {xs : List Value} {x : PV} {A' : Option Addr} {c' : Nat} {e : Ending} {w' : World}
    (h : OwnAt W base m (.slice A m.length c) w) (h1 : w.ownsRow base 65 6 (.slice A m.length c) m.length xs) (h2 : PRep w F m xs) (h3 : ∀ k, F k → k < w.heap.size) (h4 : ∀ g, (Value.slice A m.length c).ownBlock = some g → ¬ F g)
    (hi : r ≤ m.length) (hx : GoodI w F2 ⟨x, A', c'⟩) (hF2 : ∀ k, F2 k → k < w.heap.size ∧ (Value.slice A m.length c).ownBlock ≠ some k)
    (hI : Inserted w base (.slice A m.length c) m.length (xs.take (r * 6) ++ encI ⟨x, A', c'⟩ ++ xs.drop (r * 6)) e w') : ∃ v', e = .returned v' ∧ OwnAt W base (insL m r x) v' w' := by
  obtain ⟨gg, cap, he, ho, hg, hat⟩ := hI
  exact ⟨_, he, h.put h1 h2 h3 h4 hi hx hF2 ho hg hat⟩
theorem insert_any (m : List PV) (x : PV) (r : Nat) (v : Value) (A' : Option Addr) (c' vb base : Nat) (F2 : Nat → Prop) (W w : World) (hn : m.length ≤ 1000) (ho : OwnAt W base m v w) (hr : r ≤ m.length)
    (hvb : w.heap[vb]? = some (.cells (encI ⟨x, A', c'⟩).toArray 65 (0, 0))) (hx : GoodI w F2 ⟨x, A', c'⟩) (hF2 : ∀ k, F2 k → k < w.heap.size ∧ v.ownBlock ≠ some k) (hvo : v.ownBlock ≠ some vb) :
    Calls Tryz.prog 47 #[v, .int .i64 r, .slice (some ⟨vb, 0, none⟩) 1 1] w fun e w' => ∃ v', e = .returned v' ∧ OwnAt W base (insL m r x) v' w' := by
  have hle := ho.le
  obtain ⟨F, xs, h1, h2, h3, h4⟩ := ho.rep
  have hs : (encI ⟨x, A', c'⟩).toArray.size = 6 := by simp [encI_len]
  have hone : ∀ u ∈ (encI ⟨x, A', c'⟩).toArray.toList, u.oneCell' = true := by simpa using encI_one ⟨x, A', c'⟩
  have hx1 : ∀ u ∈ xs, u.oneCell' = true := by
    obtain ⟨d, hd, hxs, hgood⟩ := h2.items
    subst hxs
    intro u hu
    obtain ⟨y, hy, hu⟩ := List.mem_flatMap.1 hu
    exact encI_one y u hu
  have hlen := h1.1
  rcases h1.2 with ⟨e1, e2⟩ | ⟨g, c, cur, e1, hb, hg, hnc, hcm, hcs, htake⟩
  · have hL : m = [] := List.eq_nil_of_length_eq_zero e2
    subst hL e1
    have h0 : r = 0 := by simpa using hr
    subst h0
    refine (propInsert_none base vb _ w hle hs hvb hone).mono ?_
    intro e w' hI
    have hxs : xs = [] := h2
    subst hxs
    exact inserted_own ho h1 h2 h3 h4 hr hx hF2 (by simpa using hI)
  · subst e1
    have hvg : vb ≠ g := fun e => hvo (by rw [e]; rfl)
    by_cases hrn : r = m.length
    · subst hrn
      refine (propInsert_end base vb g m.length c xs _ w (by omega) hle h1 hs hvb hone).mono ?_
      intro e w' hI
      refine inserted_own ho h1 h2 h3 h4 hr hx hF2 ?_
      rw [List.take_of_length_le (by omega), List.drop_of_length_le (by omega), List.append_nil]
      exact hI
    · by_cases hc : m.length + 1 ≤ c
      · refine (propInsert_shift base vb g m.length c r xs _ w (by omega) (by omega) hc h1 hx1 hs hvb hone hvg).mono ?_
        intro e w' hI
        exact inserted_own ho h1 h2 h3 h4 hr hx hF2 hI
      · refine (propInsert_grow base vb g m.length c r xs _ w (by omega) (by omega) (by omega) hle h1 hx1 hs hvb hone).mono ?_
        intro e w' hI
        exact inserted_own ho h1 h2 h3 h4 hr hx hF2 hI
end Go.Proofs.YtggnocajpnmemaaGreatDoor
