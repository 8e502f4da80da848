/- slices.Insert at properties: copy of a row of several cells an element; a row of one's own with cells put into it. slices.Insert of one property: at the end; in the middle, with room and without. slices.Insert of one property in the middle: there is room (in place). slices.Insert of one property in the middle: there is no room (a new row). slices.Insert of one property into any list of one's own. The program's Put. -/
import Derived.Test.YtggnocajpnmemaaGreatDoorPdX
import Derived.Lib.SliceRun
import Derived.Lib.AppendZerosOnto
import Derived.Laws.NewBlocks
import Derived.Shelf.Spec.SlicesInsert
import Derived.Deep.AppendLies
import Derived.Lib.Overlaps
import Derived.Shelf.RegionOpenPlain
import Derived.Shelf.Spec.SlicesInsertGrow
import Derived.Test.YtggnocajpnmemaaGreatDoorPeX
namespace Go.Proofs.YtggnocajpnmemaaGreatDoor
open Go.RowKit Go.Shelf

theorem run_copy_row {P : Program} (w : World) (dT sT ty elem : TypeId) (b o dLen dCap : Nat) (a : Addr) (sLen sCap n size : Nat) (cs : List Value)
    (hu : P.underlying dT = some (.slice elem)) (hs : (P.info? elem).map (·.size) = some size) (hn : n = Nat.min sLen dLen) (hl : cs.length = n * size)
    (hsrc : ∀ j v, cs[j]? = some v → w.cell? (a.add j) = some v) (hc : ∀ j, j < cs.length → (w.cell? ⟨b, o + j, none⟩).isSome = true) (hf : ∀ j, j < cs.length → w.frozen? ⟨b, o + j, none⟩ = false) (h1 : ∀ v ∈ cs, v.oneCell' = true) :
    (Builtin.copy_ #[dT, sT] ty #[.slice (some ⟨b, o, none⟩) dLen dCap, .slice (some a) sLen sCap]).run P w = .ok (goInt n) (w.setCells b o cs) := by
  have hld := run_loadCells_list (P := P) w a cs hsrc
  have hst := run_storeCells_cells (P := P) b o cs 0 w (by simpa using hc) (by simpa using hf) h1
  rw [hl] at hld
  cases hq : P.info? elem with
  | none => simp [hq] at hs
  | some i =>
    have hi : i.size = size := by simpa [hq] using hs
    simp [Builtin.copy_, run_underlying hu, Builtin.lenOf, Builtin.firstCells, sizeOf, typeInfo, hq, hi, ← hn, hld, hst]
theorem own_putCells {b c base n : Nat} {e : TypeId} {size : Nat} : ∀ (vs : List Value) (o : Nat) (w : World) (xs : List Value), w.ownsRow base e size (.slice (some ⟨b, 0, none⟩) n c) n xs → o + vs.length ≤ xs.length →
    (w.setCells b o vs).ownsRow base e size (.slice (some ⟨b, 0, none⟩) n c) n (xs.take o ++ vs ++ xs.drop (o + vs.length)) ∧ w.grownBy (w.setCells b o vs) (some b)
  | [], o, w, xs, h, _ => ⟨by rw [List.append_nil, List.length_nil, Nat.add_zero, List.take_append_drop]; exact h, ⟨rfl, rfl, rfl, Nat.le_refl _, fun _ _ _ => rfl⟩⟩
  | v :: vs, o, w, xs, h, hl => by
    have s := h.stored o v
    simp only [List.length_cons] at hl
    obtain ⟨h1, h3⟩ := own_putCells vs (o + 1) _ _ s.1 (by rw [List.length_set]; omega)
    refine ⟨?_, ⟨h3.os.trans s.2.os, h3.tape.trans s.2.tape, h3.output.trans s.2.output, Nat.le_trans s.2.size h3.size, fun k hk hne => (h3.block k (Nat.lt_of_lt_of_le hk s.2.size) hne).trans (s.2.block k hk hne)⟩⟩
    have e1 : (xs.set o v).take (o + 1) = xs.take o ++ [v] := by
      rw [List.take_succ_eq_append_getElem (by rw [List.length_set]; omega), List.take_set_of_le (by omega)]
      simp
    have e2 : (xs.set o v).drop (o + 1 + vs.length) = xs.drop (o + (v :: vs).length) := by
      rw [List.drop_set_of_lt (by omega), List.length_cons]
      congr 1
      omega
    rw [e1, e2] at h1
    rw [show xs.take o ++ (v :: vs) = xs.take o ++ [v] ++ vs by simp]
    exact h1
theorem flat_take : ∀ (d : List PItem) (i : Nat), (d.take i).flatMap encI = (d.flatMap encI).take (i * 6)
  | [], i => by simp
  | x :: d, 0 => by simp
  | x :: d, i + 1 => by
    rw [List.take_succ_cons, List.flatMap_cons, List.flatMap_cons, flat_take d i, List.take_append, encI_len, List.take_of_length_le (l := encI x) (by rw [encI_len]; omega)]
    congr 2
    omega
theorem flat_drop : ∀ (d : List PItem) (i : Nat), (d.drop i).flatMap encI = (d.flatMap encI).drop (i * 6)
  | [], i => by simp
  | x :: d, 0 => by simp
  | x :: d, i + 1 => by
    rw [List.drop_succ_cons, List.flatMap_cons, flat_drop d i, List.drop_append, encI_len, List.drop_of_length_le (l := encI x) (by rw [encI_len]; omega), List.nil_append]
    congr 1
    omega
/-- What was put into a row of one's own is a list of one's own again. -/
theorem OwnAt.put {W w w' : World} {base : Nat} {m : List PV} {A : Option Addr} {c i gg cap : Nat} {F F2 : Nat → Prop} {xs : List Value} {x : PV} {A' : Option Addr} {c' : Nat}
    (h : OwnAt W base m (.slice A m.length c) w) (h1 : w.ownsRow base 65 6 (.slice A m.length c) m.length xs) (h2 : PRep w F m xs) (h3 : ∀ k, F k → k < w.heap.size) (h4 : ∀ g, (Value.slice A m.length c).ownBlock = some g → ¬ F g)
    (hi : i ≤ m.length) (hx : GoodI w F2 ⟨x, A', c'⟩) (hF2 : ∀ k, F2 k → k < w.heap.size ∧ (Value.slice A m.length c).ownBlock ≠ some k)
    (ho : w'.ownsRow base 65 6 (.slice (some ⟨gg, 0, none⟩) (m.length + 1) cap) (m.length + 1) (xs.take (i * 6) ++ encI ⟨x, A', c'⟩ ++ xs.drop (i * 6)))
    (hg : w.grownBy w' (Value.slice A m.length c).ownBlock) (hat : (Value.slice A m.length c).ownBlock = some gg ∨ w.heap.size ≤ gg) : OwnAt W base (insL m i x) (.slice (some ⟨gg, 0, none⟩) (m.length + 1) cap) w' := by
  have hle := h.le
  have hbel := h.bel
  obtain ⟨d, hd, hxs, hgood⟩ := h2.items
  subst hxs
  have hlt : ∀ g, (Value.slice A m.length c).ownBlock = some g → base ≤ g ∧ g < w.heap.size := fun g hg => h1.lt g hg
  refine ⟨⟨hg.os.trans hbel.os, hg.tape.trans hbel.tape, hg.output.trans hbel.output, Nat.le_trans hbel.size hg.size, fun k hk => (hg.block k (by omega) (fun e => by have := hlt k e.symm; omega)).trans (hbel.block k hk)⟩, Nat.le_trans hle hg.size, fun k => F k ∨ F2 k, _, by rw [insL_len']; exact ho, ?_, fun k hk => ?_, fun g hg2 => ?_⟩
  · have e1 : (d.flatMap encI).take (i * 6) ++ encI ⟨x, A', c'⟩ ++ (d.flatMap encI).drop (i * 6) = (d.take i ++ (⟨x, A', c'⟩ : PItem) :: d.drop i).flatMap encI := by
      rw [List.flatMap_append, List.flatMap_cons, flat_take, flat_drop, List.append_assoc]
    have e2 : insL m i x = (d.take i ++ (⟨x, A', c'⟩ : PItem) :: d.drop i).map (·.p) := by
      rw [List.map_append, List.map_cons, List.map_take, List.map_drop, hd]; rfl
    rw [e1, e2]
    refine rep_of_items _ (fun y hy => ?_)
    have hk : ∀ y, GoodI w F y → GoodI w' (fun k => F k ∨ F2 k) y := fun y hy => by
      obtain ⟨⟨nm, ⟨k, i, t, s, l⟩⟩, A, c⟩ := y
      exact ⟨hy.1, hy.2.1, hy.2.2.keep (fun b hb => hg.block b (h3 b hb) (fun e => h4 b e.symm hb)) (fun _ h => .inl h)⟩
    rcases List.mem_append.1 hy with hy | hy
    · exact hk y (hgood y (List.mem_of_mem_take hy))
    · rcases List.mem_cons.1 hy with rfl | hy
      · obtain ⟨nm, ⟨k, i, t, s, l⟩⟩ := x
        exact ⟨hx.1, hx.2.1, hx.2.2.keep (fun b hb => hg.block b (hF2 b hb).1 (fun e => (hF2 b hb).2 e.symm)) (fun _ h => .inr h)⟩
      · exact hk y (hgood y (List.mem_of_mem_drop hy))
  · have hsz := hg.size
    rcases hk with hk | hk
    · have := h3 k hk; omega
    · have := (hF2 k hk).1; omega
  · simp only [Value.ownBlock, Option.some.injEq] at hg2
    subst hg2
    rcases hat with e | e
    · rintro (h5 | h5)
      · exact h4 _ e h5
      · exact (hF2 _ h5).2 e
    · rintro (h5 | h5)
      · have := h3 _ h5; omega
      · have := (hF2 _ h5).1; omega
end Go.Proofs.YtggnocajpnmemaaGreatDoor
namespace Go.Proofs.YtggnocajpnmemaaGreatDoor
open Go.RowKit Go.Shelf Go.Lib

def Inserted (w : World) (base : Nat) (v : Value) (n : Nat) (ys : List Value) (e : Ending) (w' : World) : Prop :=
  ∃ gg cap, e = .returned (.slice (some ⟨gg, 0, none⟩) (n + 1) cap) ∧ w'.ownsRow base 65 6 (.slice (some ⟨gg, 0, none⟩) (n + 1) cap) (n + 1) ys ∧ w.grownBy w' v.ownBlock ∧ (v.ownBlock = some gg ∨ w.heap.size ≤ gg)

set_option maxRecDepth 100000 in
set_option maxHeartbeats 8000000 in
theorem propInsert_none (base vb : Nat) (cs : Array Value) (w : World) (hb : base ≤ w.heap.size) (hs : cs.size = 6) (hvb : w.heap[vb]? = some (.cells cs 65 (0, 0))) (hone : ∀ u ∈ cs.toList, u.oneCell' = true) :
    Calls Tryz.prog 47 #[.slice none 0 0, .int .i64 0, .slice (some ⟨vb, 0, none⟩) 1 1] w (Inserted w base (.slice none 0 0) 0 cs.toList) := by
  obtain ⟨i0, hi0, hz0, hz1, hz2⟩ := info_parts infoPr
  have HN := Lib.hid (World.news_of_block hvb)
  have H1 := Lib.hid hone
  have HS : Hid (cs.toList.length = 1 * 6) := Lib.hid (by simpa using hs)
  have HB := Lib.hid hb
  clear hvb hone hs
  go_enter Tryz.func47, Tryz.ntmps47
  go_wp2_with (at_builtin; refine wpList_append_lies _ rfl _ _ 31 rfl base 65 i0 _ 6 80 Tryz.underlying31 hi0 hz0 hz1 hz2 rfl (by omega) (.slice none 0 0) 0 [] rfl (World.ownsRow_nil _ _ _ _) ⟨vb, 0, none⟩ 1 1 cs.toList rfl HS.out HN.out H1.out (by omega) (by unfold maxLen; omega) (by omega) HB.out w.heap.size rfl ?_)
  intro gg cap w4 ho4 hg4 hat4 hlt4
  have HX : Hid (Inserted w base (.slice none 0 0) 0 cs.toList (.returned (.slice (some ⟨gg, 0, none⟩) 1 cap)) w4) := Lib.hid ⟨gg, cap, rfl, by simpa using ho4, hg4, by rcases hat4 with h | h; exact .inl h; exact .inr (by omega)⟩
  clear ho4 hg4 hat4
  go_wp2_with fail
  go_ret
  exact HX.out
set_option maxRecDepth 100000 in
set_option maxHeartbeats 8000000 in
theorem propInsert_end (base vb g n c : Nat) (xs : List Value) (cs : Array Value) (w : World) (hn : n ≤ 1048576) (hb : base ≤ w.heap.size) (ho : w.ownsRow base 65 6 (.slice (some ⟨g, 0, none⟩) n c) n xs) (hs : cs.size = 6) (hvb : w.heap[vb]? = some (.cells cs 65 (0, 0))) (hone : ∀ u ∈ cs.toList, u.oneCell' = true) :
    Calls Tryz.prog 47 #[.slice (some ⟨g, 0, none⟩) n c, .int .i64 n, .slice (some ⟨vb, 0, none⟩) 1 1] w (Inserted w base (.slice (some ⟨g, 0, none⟩) n c) n (xs ++ cs.toList)) := by
  obtain ⟨i0, hi0, hz0, hz1, hz2⟩ := info_parts infoPr
  have HN := Lib.hid (World.news_of_block hvb)
  have H1 := Lib.hid hone
  have HS : Hid (cs.toList.length = 1 * 6) := Lib.hid (by simpa using hs)
  have HB := Lib.hid hb
  have HO := Lib.hid ho
  have hnc : n ≤ c ∧ c ≤ 9223372036854775807 := by
    rcases ho.2 with ⟨h', _⟩ | ⟨g', cap', cur, h', hb', hg', hnc', hcm', hcs', htake'⟩
    · simp at h'
    · simp only [Value.slice.injEq, Option.some.injEq, Addr.mk.injEq, and_true, true_and] at h'
      obtain ⟨rfl, rfl⟩ := h'
      exact ⟨hnc', by unfold maxLen at hcm'; omega⟩
  obtain ⟨hnc1, hnc2⟩ := hnc
  clear hvb hone hs ho
  go_enter Tryz.func47, Tryz.ntmps47
  go_wp2_with (at_builtin; refine wpList_append_lies _ rfl _ _ 31 rfl base 65 i0 _ 6 80 Tryz.underlying31 hi0 hz0 hz1 hz2 rfl (by omega) (.slice (some ⟨g, 0, none⟩) n c) n xs rfl HO.out ⟨vb, 0, none⟩ 1 1 cs.toList rfl HS.out HN.out H1.out (by omega) (by unfold maxLen; omega) (by omega) HB.out w.heap.size rfl ?_)
  all_goals (
    intro gg cap w4 ho4 hg4 hat4 hlt4
    have HX : Hid (Inserted w base (.slice (some ⟨g, 0, none⟩) n c) n (xs ++ cs.toList) (.returned (.slice (some ⟨gg, 0, none⟩) (n + 1) cap)) w4) := Lib.hid ⟨gg, cap, rfl, ho4, hg4, by rcases hat4 with h | h; exact .inl h; exact .inr (by omega)⟩
    clear ho4 hg4 hat4
    go_wp2_with fail
    go_ret
    exact HX.out)
end Go.Proofs.YtggnocajpnmemaaGreatDoor
namespace Go.Proofs.YtggnocajpnmemaaGreatDoor
open Go.RowKit Go.Shelf Go.Lib

/-- A row of one's own with one element more, as it lies. -/
theorem own_more {w : World} {base g n c : Nat} {e : TypeId} {xs : List Value} (h : w.ownsRow base e 6 (.slice (some ⟨g, 0, none⟩) n c) n xs) (hc : n + 1 ≤ c) :
    ∃ ys, w.ownsRow base e 6 (.slice (some ⟨g, 0, none⟩) (n + 1) c) (n + 1) ys ∧ ys.take (n * 6) = xs := by
  rcases h.2 with ⟨h', _⟩ | ⟨g', cap', cur, h', hb, hg, hnc, hcm, hcs, htake⟩
  · simp at h'
  · simp only [Value.slice.injEq, Option.some.injEq, Addr.mk.injEq, and_true, true_and] at h'
    obtain ⟨rfl, rfl⟩ := h'
    refine ⟨cur.toList.take ((n + 1) * 6), ⟨by rw [List.length_take]; simp; omega, .inr ⟨g, c, cur, rfl, hb, hg, hc, hcm, hcs, rfl⟩⟩, ?_⟩
    rw [List.take_take, Nat.min_eq_left (by omega)]
    exact htake

set_option maxRecDepth 100000 in
set_option maxHeartbeats 8000000 in
theorem propInsert_shift (base vb g n c i : Nat) (xs : List Value) (cs : Array Value) (w : World) (hi : i < n) (hn : n ≤ 1048576) (hroom : n + 1 ≤ c) (ho : w.ownsRow base 65 6 (.slice (some ⟨g, 0, none⟩) n c) n xs) (hx1 : ∀ u ∈ xs, u.oneCell' = true)
    (hs : cs.size = 6) (hvb : w.heap[vb]? = some (.cells cs 65 (0, 0))) (hone : ∀ u ∈ cs.toList, u.oneCell' = true) (hvg : vb ≠ g) :
    Calls Tryz.prog 47 #[.slice (some ⟨g, 0, none⟩) n c, .int .i64 i, .slice (some ⟨vb, 0, none⟩) 1 1] w (Inserted w base (.slice (some ⟨g, 0, none⟩) n c) n (xs.take (i * 6) ++ cs.toList ++ xs.drop (i * 6))) := by
  have hx2 := ho.1
  have hsz : (Tryz.prog.info? 65).map (·.size) = some 6 := by
    obtain ⟨i0, hi0, hz0, hz1, hz2⟩ := info_parts infoPr
    rw [hi0]; simp [hz1]
  obtain ⟨ys, hy, hyt⟩ := own_more ho hroom
  have hyl := hy.1
  have hcm : c ≤ 9223372036854775807 := by
    rcases ho.2 with ⟨h', _⟩ | ⟨g', cap', cur, h', hb', hg', hnc', hcm', hcs', htake'⟩
    · simp at h'
    · simp only [Value.slice.injEq, Option.some.injEq, Addr.mk.injEq, and_true, true_and] at h'
      obtain ⟨rfl, rfl⟩ := h'
      unfold maxLen at hcm'; omega
  obtain ⟨cur, hgb, hcz⟩ : ∃ cur, w.heap[g]? = some (.cells cur 65 (0, 0)) ∧ cur.size = c * 6 := by
    rcases ho.2 with ⟨h', _⟩ | ⟨g', cap', cur, h', hb', hg', hnc', hcm', hcs', htake'⟩
    · simp at h'
    · simp only [Value.slice.injEq, Option.some.injEq, Addr.mk.injEq, and_true, true_and] at h'
      obtain ⟨rfl, rfl⟩ := h'
      exact ⟨cur, hg', hcs'⟩
  have hov : ∀ lb cb, (callFunc 107 #[.slice (some ⟨vb, 0, none⟩) 1 1, .slice (some ⟨g, (i + 1) * 6, none⟩) lb cb]).run Tryz.prog w = .ok (.value (.bool false)) w := fun lb cb => by
    rw [run_callFunc_extern Tryz.func107 (by kernel_rfl) (by kernel_rfl) (by kernel_rfl) (e := Extern.SlicesOverlaps.overlaps #[31, 31] #[4]) (by kernel_rfl),
      Lib.run_overlaps_apart w 31 4 65 Tryz.underlying31 6 szPr ⟨vb, 0, none⟩ ⟨g, (i + 1) * 6, none⟩ 1 1 lb cb hvg 65 65 cs.size cur.size (by simp [World.shape?, hvb]) (by simp [World.shape?, hgb]) (by rw [hcz]; omega) (by simp [World.frozen?, hvb]) (by simp [World.frozen?, hvb])]
    rfl
  have hdl : (xs.drop (i * 6)).length = (n - i) * 6 := by rw [List.length_drop, hx2]; omega
  have hcp1 : ∀ ty dc sc, (Builtin.copy_ #[31, 31] ty #[.slice (some ⟨g, (i + 1) * 6, none⟩) (n - i) dc, .slice (some ⟨g, i * 6, none⟩) (n + 1 - i) sc]).run Tryz.prog w.drew = .ok (goInt ((n - i : Nat) : Int)) (w.drew.setCells g ((i + 1) * 6) (xs.drop (i * 6))) := fun ty dc sc =>
    run_copy_row w.drew _ _ ty 65 g ((i + 1) * 6) (n - i) dc ⟨g, i * 6, none⟩ (n + 1 - i) sc (n - i) 6 (xs.drop (i * 6)) Tryz.underlying31 hsz (by simp only [Nat.min_def]; split <;> omega) hdl
      (fun j v hj => by
        rw [Addr.add_lit]
        have hjl : i * 6 + j < n * 6 := by
          have := (List.getElem?_eq_some_iff.1 hj).1
          omega
        have h1 := ho.cellAt (i * 6 + j) hjl
        rw [List.getElem?_drop] at hj
        exact h1.trans hj)
      (fun j hj => by
        have h1 := hy.cellAt ((i + 1) * 6 + j) (by omega)
        show (w.cell? _).isSome = true
        rw [h1, List.getElem?_eq_getElem (by omega)]; rfl)
      (fun j hj => ho.frozenAt _) (fun v hv => hx1 v (List.mem_of_mem_drop hv))
  have hy' : w.drew.ownsRow base 65 6 (.slice (some ⟨g, 0, none⟩) (n + 1) c) (n + 1) ys := hy
  have hp1 := own_putCells (xs.drop (i * 6)) ((i + 1) * 6) w.drew ys hy' (by omega)
  have e1 : ys.drop ((i + 1) * 6 + (xs.drop (i * 6)).length) = [] := List.drop_of_length_le (by omega)
  rw [e1, List.append_nil] at hp1
  obtain ⟨W1, hW1⟩ : ∃ W1, W1 = w.drew.setCells g ((i + 1) * 6) (xs.drop (i * 6)) := ⟨_, rfl⟩
  rw [← hW1] at hcp1 hp1
  have hvb1 : W1.heap[vb]? = some (.cells cs 65 (0, 0)) := (hp1.2.block vb (lt_of_blk' hvb) (by simpa using hvg)).trans hvb
  have hnews := World.news_of_block hvb1
  have hcp2 : ∀ ty dc, (Builtin.copy_ #[31, 31] ty #[.slice (some ⟨g, i * 6, none⟩) (n + 1 - i) dc, .slice (some ⟨vb, 0, none⟩) 1 1]).run Tryz.prog W1 = .ok (goInt ((1 : Nat) : Int)) (W1.setCells g (i * 6) cs.toList) := fun ty dc =>
    run_copy_row W1 _ _ ty 65 g (i * 6) (n + 1 - i) dc ⟨vb, 0, none⟩ 1 1 1 6 cs.toList Tryz.underlying31 hsz (by simp only [Nat.min_def]; split <;> omega) (by simpa using hs)
      hnews
      (fun j hj => by
        have hj6 : j < 6 := by simpa [hs] using hj
        have hl1 := hp1.1.1
        rw [hp1.1.cellAt (i * 6 + j) (by omega), List.getElem?_eq_getElem (by omega)]; rfl)
      (fun j hj => hp1.1.frozenAt _) hone
  have hp2 := own_putCells cs.toList (i * 6) W1 _ hp1.1 (by have := hp1.1.1; rw [this]; simp [hs]; omega)
  have e2 : (ys.take ((i + 1) * 6) ++ xs.drop (i * 6)).take (i * 6) = xs.take (i * 6) := by
    rw [List.take_append_of_le_length (by rw [List.length_take]; omega), List.take_take, Nat.min_eq_left (by omega), ← hyt, List.take_take, Nat.min_eq_left (by omega)]
  have e3 : (ys.take ((i + 1) * 6) ++ xs.drop (i * 6)).drop (i * 6 + cs.toList.length) = xs.drop (i * 6) := by
    have h6 : i * 6 + cs.toList.length = (ys.take ((i + 1) * 6)).length := by rw [List.length_take]; simp [hs]; omega
    rw [h6, List.drop_left]
  rw [e2, e3] at hp2
  have HX : Hid (Inserted w base (.slice (some ⟨g, 0, none⟩) n c) n (xs.take (i * 6) ++ cs.toList ++ xs.drop (i * 6)) (.returned (.slice (some ⟨g, 0, none⟩) (n + 1) c)) (W1.setCells g (i * 6) cs.toList)) := Lib.hid (by
    refine ⟨g, c, rfl, hp2.1, ?_, .inl rfl⟩
    exact ⟨hp2.2.os.trans hp1.2.os, hp2.2.tape.trans hp1.2.tape, hp2.2.output.trans hp1.2.output, Nat.le_trans hp1.2.size hp2.2.size, fun k hk hne => (hp2.2.block k (Nat.lt_of_lt_of_le hk hp1.2.size) hne).trans (hp1.2.block k hk hne)⟩)
  generalize (xs.take (i * 6) ++ cs.toList ++ xs.drop (i * 6)) = zs at HX ⊢
  have mixed : Tryz.prog.follows Departure.mixedOrders = true := by kernel_rfl
  have hz2 : ¬ ((i : Int) = (n : Int)) := by omega
  have hw1 : IntKind.i64.wrap ((i : Int) + 1) = (i : Int) + 1 := by rw [IntKind.wrap_i64]; omega
  have hw2 : IntKind.i64.wrap ((n : Int) + 1) = (n : Int) + 1 := by rw [IntKind.wrap_i64]; omega
  have hb1 : (0 : Int) ≤ (i : Int) + 1 := by omega
  have hin : i ≤ n := by omega
  have htn : ((i : Int) + 1).toNat = i + 1 := by omega
  have hb2 : ¬ (c = i + 1) := by omega
  have hb3 : (i : Int) ≤ (n : Int) + 1 := by omega
  have hb4 : ¬ (c = i) := by omega
  subst hW1
  clear hx1 hvb hone hvb1 hnews hp1 hp2 e1 e2 e3 hy hy' hyt hdl ho hgb
  go_enter Tryz.func47, Tryz.ntmps47
  go_wp2_with (simp only [hov])
  go_region_law_o (refine step_copy_runI rfl _ _ 31 31 rfl _ _ (by simp [Act.eval, Act.put]) (by simp [Act.eval, Act.put]) (hcp1 _ _ _) ?_)
  go_wp2_with (at_builtin; refine wpList_copy_runI _ rfl _ _ 31 31 rfl _ _ rfl rfl (hcp2 _ _) ?_)
  go_ret
  exact HX.out
end Go.Proofs.YtggnocajpnmemaaGreatDoor
namespace Go.Proofs.YtggnocajpnmemaaGreatDoor
open Go.RowKit Go.Shelf Go.Lib

set_option maxRecDepth 100000 in
set_option maxHeartbeats 8000000 in
theorem propInsert_grow (base vb g n c i : Nat) (xs : List Value) (cs : Array Value) (w : World) (hi : i < n) (hn : n ≤ 1048576) (hroom : c < n + 1) (hb : base ≤ w.heap.size) (ho : w.ownsRow base 65 6 (.slice (some ⟨g, 0, none⟩) n c) n xs) (hx1 : ∀ u ∈ xs, u.oneCell' = true)
    (hs : cs.size = 6) (hvb : w.heap[vb]? = some (.cells cs 65 (0, 0))) (hone : ∀ u ∈ cs.toList, u.oneCell' = true) :
    Calls Tryz.prog 47 #[.slice (some ⟨g, 0, none⟩) n c, .int .i64 i, .slice (some ⟨vb, 0, none⟩) 1 1] w (Inserted w base (.slice (some ⟨g, 0, none⟩) n c) n (xs.take (i * 6) ++ cs.toList ++ xs.drop (i * 6))) := by
  have hx2 := ho.1
  obtain ⟨i0, hi0, hz0, hz1, hz2⟩ := info_parts infoPr
  have hsz : (Tryz.prog.info? 65).map (·.size) = some 6 := by rw [hi0]; simp [hz1]
  have hnc : n ≤ c := by
    rcases ho.2 with ⟨h', _⟩ | ⟨g', cap', cur, h', hb', hg', hnc', hcm', hcs', htake'⟩
    · simp at h'
    · simp only [Value.slice.injEq, Option.some.injEq, Addr.mk.injEq, and_true, true_and] at h'
      obtain ⟨rfl, rfl⟩ := h'
      exact hnc'
  have hgw := (ho.lt g rfl).2
  have hvw := lt_of_blk' hvb
  have hold : (Builtin.firstCells i0.size i (.slice (some ⟨g, 0, none⟩) i c)).run Tryz.prog w.drew = .ok (xs.take (i * 6)).toArray w.drew := by
    rw [hz1]
    exact run_firstCells_some w.drew 6 i ⟨g, 0, none⟩ i c (xs.take (i * 6)) (by rw [List.length_take]; omega) (fun j v hj => by
      rw [Addr.add_lit]
      rw [List.getElem?_take] at hj
      split at hj
      · rw [Nat.zero_add]
        have h1 := ho.cellAt j (by omega)
        exact h1.trans hj
      · cases hj)
  have hik : i + (n + 1 - i) = n + 1 := by omega
  have hkk : (n : Int) + 1 - (i : Int) = ((n + 1 - i : Nat) : Int) := by omega
  have hrz : ∀ ty, (Builtin.append_ #[31, 3] ty #[.slice (some ⟨g, 0, none⟩) i c, .int .i64 ((n : Int) + 1 - (i : Int))]).run Tryz.prog w =
      .ok (.slice (some ⟨w.heap.size, 0, none⟩) (n + 1) (grownCap w (n + 1) c 65)) (w.drew.alloc (.cells ((xs.take (i * 6)).toArray ++ Builtin.zeroCells zeroPr.cells (n + 1 - i) ++ Builtin.zeroCells zeroPr.cells (grownCap w (n + 1) c 65 - (n + 1))) 65)) := fun ty => by
    have h := Lib.run_append_grow_zeros w 31 3 ty 65 i0 zeroPr .i64 .i64 Tryz.underlying31 Tryz.underlying3 hi0 hz0 (some ⟨g, 0, none⟩) i c (xs.take (i * 6)) hold (n + 1 - i) (by omega) (by omega) (by omega) (by omega) (by rw [hz2]; omega) (by rw [hz2, hik]; exact growslice_fits hroom (by omega))
    rw [hik] at h
    rw [hkk]
    exact h
  obtain ⟨G, hG⟩ : ∃ G, G = grownCap w (n + 1) c 65 := ⟨_, rfl⟩
  have hGn : n + 1 ≤ G := by rw [hG]; exact grownCap_ge w _ _ _
  have hGm : G ≤ maxLen := by
    have := grownCap_le_maxLen w (n + 1) c 65 (by unfold maxLen; omega)
    rwa [← hG] at this
  have hG63 : G ≤ 9223372036854775807 := by unfold maxLen at hGm; omega
  obtain ⟨ROW, hROW⟩ : ∃ ROW : Array Value, ROW = (xs.take (i * 6)).toArray ++ Builtin.zeroCells zeroPr.cells (n + 1 - i) ++ Builtin.zeroCells zeroPr.cells (G - (n + 1)) := ⟨_, rfl⟩
  have zl : ∀ k, (Builtin.zeroCells zeroPr.cells k).size = k * 6 := fun k => by have := zeroPr_len k; simpa using this
  have hRz : ROW.size = G * 6 := by
    rw [hROW, Array.size_append, Array.size_append, zl, zl]
    simp [List.length_take]
    omega
  have hRt : ROW.toList.take ((n + 1) * 6) = xs.take (i * 6) ++ (Builtin.zeroCells zeroPr.cells (n + 1 - i)).toList := by
    rw [hROW, Array.toList_append, Array.toList_append, List.take_append_of_le_length (by simp [zl, List.length_take]; omega)]
    exact List.take_of_length_le (by simp [zl, List.length_take]; omega)
  rw [← hG] at hrz
  rw [← hROW] at hrz
  obtain ⟨Bn, hBn⟩ : ∃ Bn, Bn = w.heap.size := ⟨_, rfl⟩
  have hown0 : (w.alloc (.cells ROW 65)).drew.ownsRow base 65 6 (.slice (some ⟨Bn, 0, none⟩) (n + 1) G) (n + 1) (xs.take (i * 6) ++ (Builtin.zeroCells zeroPr.cells (n + 1 - i)).toList) :=
    ⟨by simp [zl, List.length_take]; omega, .inr ⟨Bn, G, ROW, rfl, by omega, by rw [hBn]; exact heap_alloc_new w _, hGn, hGm, hRz, hRt⟩⟩
  have hp1 := own_putCells cs.toList (i * 6) _ _ hown0 (by simp [zl, List.length_take, hs]; omega)
  have e1 : (xs.take (i * 6) ++ (Builtin.zeroCells zeroPr.cells (n + 1 - i)).toList).take (i * 6) = xs.take (i * 6) := by
    rw [List.take_append_of_le_length (by rw [List.length_take]; omega), List.take_take, Nat.min_self]
  rw [e1] at hp1
  obtain ⟨zz, hzz⟩ : ∃ zz, zz = (xs.take (i * 6) ++ (Builtin.zeroCells zeroPr.cells (n + 1 - i)).toList).drop (i * 6 + cs.toList.length) := ⟨_, rfl⟩
  rw [← hzz] at hp1
  have hzl : zz.length = (n - i) * 6 := by
    rw [hzz, List.length_drop]
    simp [zl, List.length_take, hs]
    omega
  have hdl : (xs.drop (i * 6)).length = (n - i) * 6 := by rw [List.length_drop, hx2]; omega
  have hown1 : ((w.alloc (.cells ROW 65)).drew.setCells Bn (i * 6) cs.toList).drew.ownsRow base 65 6 (.slice (some ⟨Bn, 0, none⟩) (n + 1) G) (n + 1) (xs.take (i * 6) ++ cs.toList ++ zz) := hp1.1
  have hp2 := own_putCells (xs.drop (i * 6)) ((i + 1) * 6) _ _ hown1 (by rw [hown1.1]; omega)
  have e2 : (xs.take (i * 6) ++ cs.toList ++ zz).take ((i + 1) * 6) = xs.take (i * 6) ++ cs.toList := List.take_left' (by simp [List.length_take, hs]; omega)
  have e3 : (xs.take (i * 6) ++ cs.toList ++ zz).drop ((i + 1) * 6 + (xs.drop (i * 6)).length) = [] := List.drop_of_length_le (by rw [hown1.1]; omega)
  rw [e2, e3, List.append_nil] at hp2
  have HX : Hid (Inserted w base (.slice (some ⟨g, 0, none⟩) n c) n (xs.take (i * 6) ++ cs.toList ++ xs.drop (i * 6)) (.returned (.slice (some ⟨Bn, 0, none⟩) (n + 1) G)) (((w.alloc (.cells ROW 65)).drew.setCells Bn (i * 6) cs.toList).drew.setCells Bn ((i + 1) * 6) (xs.drop (i * 6)))) := Lib.hid (by
    refine ⟨Bn, G, rfl, hp2.1, ?_, .inr (by omega)⟩
    have hsz1 := hp1.2.size
    have hsz2 := hp2.2.size
    refine ⟨hp2.2.os.trans hp1.2.os, hp2.2.tape.trans hp1.2.tape, hp2.2.output.trans hp1.2.output, ?_, fun k hk hne => ?_⟩
    · have e : (w.alloc (.cells ROW 65)).drew.heap.size = w.heap.size + 1 := by simp
      have e' : ((w.alloc (.cells ROW 65)).drew.setCells Bn (i * 6) cs.toList).drew.heap.size = ((w.alloc (.cells ROW 65)).drew.setCells Bn (i * 6) cs.toList).heap.size := rfl
      omega
    · have h0 : (w.alloc (.cells ROW 65)).drew.heap[k]? = w.heap[k]? := Below.heap_alloc _ _ _ hk
      have hk1 : k < (w.alloc (.cells ROW 65)).drew.heap.size := by simp; omega
      have hne2 : some k ≠ some Bn := by simp; omega
      exact (hp2.2.block k (Nat.lt_of_lt_of_le hk1 hsz1) hne2).trans ((hp1.2.block k hk1 hne2).trans h0))
  have hW1c : ∀ j, j < (n + 1) * 6 → ((w.drew.alloc (.cells ROW 65)).cell? ⟨Bn, j, none⟩).isSome = true := fun j hj => by
    rw [hBn, World.cell?_alloc_at (w := w.drew) ROW _ w.heap.size j rfl, Array.getElem?_eq_getElem (by omega)]; rfl
  have hW1f : ∀ j, (w.drew.alloc (.cells ROW 65)).frozen? ⟨Bn, j, none⟩ = false := fun j => by rw [hBn]; exact World.frozen?_alloc_at (w := w.drew) ROW _ w.heap.size j rfl
  have hOg : ∀ j v, w.cell? ⟨g, j, none⟩ = some v → (w.drew.alloc (.cells ROW 65)).cell? ⟨g, j, none⟩ = some v := fun j v h => by rw [World.cell?_alloc_past (w := w.drew) _ g j hgw]; exact h
  have hOv : ∀ j v, w.cell? ⟨vb, j, none⟩ = some v → (w.drew.alloc (.cells ROW 65)).cell? ⟨vb, j, none⟩ = some v := fun j v h => by rw [World.cell?_alloc_past (w := w.drew) _ vb j hvw]; exact h
  have hnews := World.news_of_block hvb
  have hcpA : ∀ (W : World), (∀ x, W.cell? x = (w.drew.alloc (.cells ROW 65)).cell? x) → (∀ x, W.frozen? x = (w.drew.alloc (.cells ROW 65)).frozen? x) → ∀ ty dc, (Builtin.copy_ #[31, 31] ty #[.slice (some ⟨Bn, i * 6, none⟩) (n + 1 - i) dc, .slice (some ⟨vb, 0, none⟩) 1 1]).run Tryz.prog W = .ok (goInt ((1 : Nat) : Int)) (W.setCells Bn (i * 6) cs.toList) := fun W hWc hWf ty dc =>
    run_copy_row W _ _ ty 65 Bn (i * 6) (n + 1 - i) dc ⟨vb, 0, none⟩ 1 1 1 6 cs.toList Tryz.underlying31 hsz (by simp only [Nat.min_def]; split <;> omega) (by simpa using hs)
      (fun j v hj => by
        have h1 := hnews j v hj
        rw [Addr.add_lit] at h1 ⊢
        rw [hWc]
        exact hOv _ v h1)
      (fun j hj => by rw [hWc]; exact hW1c _ (by have : j < 6 := by simpa [hs] using hj
                                                 omega))
      (fun j hj => by rw [hWf]; exact hW1f _) hone
  have hgB : g ≠ Bn := by omega
  have hcpB : ∀ (W : World), (∀ x, W.cell? x = ((w.drew.alloc (.cells ROW 65)).setCells Bn (i * 6) cs.toList).cell? x) → (∀ x, W.frozen? x = ((w.drew.alloc (.cells ROW 65)).setCells Bn (i * 6) cs.toList).frozen? x) → ∀ ty dc sc, (Builtin.copy_ #[31, 31] ty #[.slice (some ⟨Bn, (i + 1) * 6, none⟩) (n - i) dc, .slice (some ⟨g, i * 6, none⟩) (n - i) sc]).run Tryz.prog W = .ok (goInt ((n - i : Nat) : Int)) (W.setCells Bn ((i + 1) * 6) (xs.drop (i * 6))) := fun W hWc hWf ty dc sc =>
    run_copy_row W _ _ ty 65 Bn ((i + 1) * 6) (n - i) dc ⟨g, i * 6, none⟩ (n - i) sc (n - i) 6 (xs.drop (i * 6)) Tryz.underlying31 hsz (by simp only [Nat.min_def]; split <;> omega) hdl
      (fun j v hj => by
        have hjl : i * 6 + j < n * 6 := by
          have := (List.getElem?_eq_some_iff.1 hj).1
          omega
        have h1 := ho.cellAt (i * 6 + j) hjl
        rw [List.getElem?_drop] at hj
        rw [Addr.add_lit, hWc, World.cell?_setCells_out _ _ _ _ _ (fun h _ => absurd h hgB)]
        exact hOg _ v (h1.trans hj))
      (fun j hj => by rw [hWc]; exact isSome_setCells _ _ _ _ (fun t ht => hW1c _ (by have : t < 6 := by simpa [hs] using ht
                                                                                      omega)) _ (hW1c _ (by omega)))
      (fun j hj => by rw [hWf, World.frozen?_setCells]; exact hW1f _) (fun v hv => hx1 v (List.mem_of_mem_drop hv))
  have hE1 : ∀ x, ((w.alloc (.cells ROW 65)).drew).cell? x = (w.drew.alloc (.cells ROW 65)).cell? x := fun x => rfl
  have hE2 : ∀ x, ((w.alloc (.cells ROW 65)).drew).frozen? x = (w.drew.alloc (.cells ROW 65)).frozen? x := fun x => rfl
  have hF1 : ∀ x, (((w.alloc (.cells ROW 65)).drew.setCells Bn (i * 6) cs.toList).drew).cell? x = ((w.drew.alloc (.cells ROW 65)).setCells Bn (i * 6) cs.toList).cell? x := fun x => rfl
  have hF2 : ∀ x, (((w.alloc (.cells ROW 65)).drew.setCells Bn (i * 6) cs.toList).drew).frozen? x = ((w.drew.alloc (.cells ROW 65)).setCells Bn (i * 6) cs.toList).frozen? x := fun x => rfl
  subst hBn
  generalize (xs.take (i * 6) ++ cs.toList ++ xs.drop (i * 6)) = zs at HX ⊢
  have mixed : Tryz.prog.follows Departure.mixedOrders = true := by kernel_rfl
  have hz3 : ¬ ((i : Int) = (n : Int)) := by omega
  have hz4 : (c : Int) < (n : Int) + 1 := by omega
  have hw1 : IntKind.i64.wrap ((i : Int) + 1) = (i : Int) + 1 := by rw [IntKind.wrap_i64]; omega
  have hb1 : (0 : Int) ≤ (i : Int) + 1 := by omega
  have hin : i ≤ n := by omega
  have htn : ((i : Int) + 1).toNat = i + 1 := by omega
  have hb3 : (i : Int) ≤ (n : Int) := by omega
  have hGi : ¬ (G = i) := by omega
  have hGim : ¬ (G = i + 1) := by omega
  have hci : ¬ (c = i) := by omega
  clear hx1 hvb hone hnews hp1 hp2 e1 e2 e3 hown0 hown1 hzz hzl hdl ho hW1c hW1f hOg hOv hRt hRz hROW hG hold hik hkk
  go_enter Tryz.func47, Tryz.ntmps47
  go_wp2_with (first
    | (at_builtin; refine Lib.wpList_append_run _ rfl _ _ _ _ rfl _ _ rfl rfl _ _ (hrz _) ?_)
    | (at_builtin; refine wpList_copy_runI _ rfl _ _ 31 31 rfl _ _ rfl rfl (hcpA _ hE1 hE2 _ _) ?_))
  go_region_law_o (refine step_copy_runI rfl _ _ 31 31 rfl (.slice (some ⟨w.heap.size, (i + 1) * 6, none⟩) (n - i) (G - (i + 1))) (.slice (some ⟨g, i * 6, none⟩) (n - i) (c - i)) (by simp [Act.eval, Act.put]) (by simp [Act.eval, Act.put]) (hcpB _ hF1 hF2 3 (G - (i + 1)) (c - i)) ?_)
  go_wp2
  go_ret
  exact HX.out
end Go.Proofs.YtggnocajpnmemaaGreatDoor
namespace Go.Proofs.YtggnocajpnmemaaGreatDoor
open Go.RowKit Go.Shelf

theorem inserted_own {W w : World} {base : Nat} {m : List PV} {A : Option Addr} {c r : Nat} {F F2 : Nat → Prop} {xs : List Value} {x : PV} {A' : Option Addr} {c' : Nat} {e : Ending} {w' : World}
    (h : OwnAt W base m (.slice A m.length c) w) (h1 : w.ownsRow base 65 6 (.slice A m.length c) m.length xs) (h2 : PRep w F m xs) (h3 : ∀ k, F k → k < w.heap.size) (h4 : ∀ g, (Value.slice A m.length c).ownBlock = some g → ¬ F g)
    (hi : r ≤ m.length) (hx : GoodI w F2 ⟨x, A', c'⟩) (hF2 : ∀ k, F2 k → k < w.heap.size ∧ (Value.slice A m.length c).ownBlock ≠ some k)
    (hI : Inserted w base (.slice A m.length c) m.length (xs.take (r * 6) ++ encI ⟨x, A', c'⟩ ++ xs.drop (r * 6)) e w') : ∃ v', e = .returned v' ∧ OwnAt W base (insL m r x) v' w' := by
  obtain ⟨gg, cap, he, ho, hg, hat⟩ := hI
  exact ⟨_, he, h.put h1 h2 h3 h4 hi hx hF2 ho hg hat⟩
theorem insert_any (m : List PV) (x : PV) (r : Nat) (v : Value) (A' : Option Addr) (c' vb base : Nat) (F2 : Nat → Prop) (W w : World) (hn : m.length ≤ 1000) (ho : OwnAt W base m v w) (hr : r ≤ m.length)
    (hvb : w.heap[vb]? = some (.cells (encI ⟨x, A', c'⟩).toArray 65 (0, 0))) (hx : GoodI w F2 ⟨x, A', c'⟩) (hF2 : ∀ k, F2 k → k < w.heap.size ∧ v.ownBlock ≠ some k) (hvo : v.ownBlock ≠ some vb) :
    Calls Tryz.prog 47 #[v, .int .i64 r, .slice (some ⟨vb, 0, none⟩) 1 1] w fun e w' => ∃ v', e = .returned v' ∧ OwnAt W base (insL m r x) v' w' := by
  have hle := ho.le
  obtain ⟨F, xs, h1, h2, h3, h4⟩ := ho.rep
  have hs : (encI ⟨x, A', c'⟩).toArray.size = 6 := by simp [encI_len]
  have hone : ∀ u ∈ (encI ⟨x, A', c'⟩).toArray.toList, u.oneCell' = true := by simpa using encI_one ⟨x, A', c'⟩
  have hx1 : ∀ u ∈ xs, u.oneCell' = true := by
    obtain ⟨d, hd, hxs, hgood⟩ := h2.items
    subst hxs
    intro u hu
    obtain ⟨y, hy, hu⟩ := List.mem_flatMap.1 hu
    exact encI_one y u hu
  have hlen := h1.1
  rcases h1.2 with ⟨e1, e2⟩ | ⟨g, c, cur, e1, hb, hg, hnc, hcm, hcs, htake⟩
  · have hL : m = [] := List.eq_nil_of_length_eq_zero e2
    subst hL e1
    have h0 : r = 0 := by simpa using hr
    subst h0
    refine (propInsert_none base vb _ w hle hs hvb hone).mono ?_
    intro e w' hI
    have hxs : xs = [] := h2
    subst hxs
    exact inserted_own ho h1 h2 h3 h4 hr hx hF2 (by simpa using hI)
  · subst e1
    have hvg : vb ≠ g := fun e => hvo (by rw [e]; rfl)
    by_cases hrn : r = m.length
    · subst hrn
      refine (propInsert_end base vb g m.length c xs _ w (by omega) hle h1 hs hvb hone).mono ?_
      intro e w' hI
      refine inserted_own ho h1 h2 h3 h4 hr hx hF2 ?_
      rw [List.take_of_length_le (by omega), List.drop_of_length_le (by omega), List.append_nil]
      exact hI
    · by_cases hc : m.length + 1 ≤ c
      · refine (propInsert_shift base vb g m.length c r xs _ w (by omega) (by omega) hc h1 hx1 hs hvb hone hvg).mono ?_
        intro e w' hI
        exact inserted_own ho h1 h2 h3 h4 hr hx hF2 hI
      · refine (propInsert_grow base vb g m.length c r xs _ w (by omega) (by omega) (by omega) hle h1 hx1 hs hvb hone).mono ?_
        intro e w' hI
        exact inserted_own ho h1 h2 h3 h4 hr hx hF2 hI
end Go.Proofs.YtggnocajpnmemaaGreatDoor
namespace Go.Proofs.YtggnocajpnmemaaGreatDoor
open Go.RowKit Go.Shelf

theorem OwnAt.later {W w w' : World} {base : Nat} {L : List PV} {v : Value} (h : OwnAt W base L v w) (hb : Below w.heap.size w w') : OwnAt W base L v w' := by
  obtain ⟨F, xs, h1, h2, h3, h4⟩ := h.rep
  exact ⟨h.bel.trans (hb.mono h.le), Nat.le_trans h.le hb.size, F, xs, own_kept h1 (fun g hg => hb.block g (h1.lt g hg).2), h2.keep (fun k hk => hb.block k (h3 k hk)) (fun _ h => h), fun k hk => Nat.lt_of_lt_of_le (h3 k hk) hb.size, h4⟩
theorem OwnAt.psl {W w : World} {base : Nat} {L : List PV} {v : Value} (h : OwnAt W base L v w) (hl : L.length ≤ 1048576) : PSl w w.heap.size L v := by
  obtain ⟨F, xs, hown, hrep, hF, hFo⟩ := h.rep
  rcases hown.2 with ⟨e1, e2⟩ | ⟨g, cap, cur, e1, hb, hg, hnc, hcm, hcs, htake⟩
  · have hL : L = [] := List.eq_nil_of_length_eq_zero e2
    subst hL
    exact ⟨none, 0, e1, by simp, by simp, .inl rfl⟩
  · refine ⟨_, cap, e1, hl, hnc, .inr ⟨g, 0, rfl, ?_⟩⟩
    have hlt := (hown.lt g (by rw [e1]; rfl)).2
    refine rep_prow (fun k hk => hF k hk) g 0 hlt hrep (fun j u hj => ?_)
    rw [e1] at hown
    have hj2 : j < L.length * 6 := by
      have := (List.getElem?_eq_some_iff.1 hj).1
      rw [hown.1] at this
      exact this
    rw [Nat.zero_add, hown.cellAt j hj2]
    exact hj

set_option maxRecDepth 100000 in
set_option maxHeartbeats 8000000 in
theorem putP_any (l : List PV) (q : ByteArray) (A : Option Addr) (c : Nat) (k i t : Int) (s : ByteArray) (lx : List V) (A2 : Option Addr) (c2 : Nat) (w : World)
    (hl : PSl w w.heap.size l (.slice A l.length c)) (hN : ∀ p ∈ l, nodesV p.val ≤ 1048576) (hv : SlAt w w.heap.size lx (.slice A2 lx.length c2)) (hNv : nodesL lx ≤ 1048576) (hz : q.size ≤ 1048576 ∧ s.size ≤ 1048576) :
    Calls Tryz.prog 18 #[.slice A l.length c, .string q, .agg #[.int .i64 k, .int .i64 i, .int .i64 t, .string s, .slice A2 lx.length c2]] w (Gives w (putE l q (.mk k i t s lx)) (putL l q (.mk k i t s lx))) := by
  have HP := Lib.hid (fun W (hW : Below w.heap.size w W) => checkProps_any l A c W ((hl.below hW (Nat.le_refl _)).up hW.size))
  have HNM := Lib.hid (fun W => checkName_any q W (by omega))
  have HVF := Lib.hid (fun W (hW : Below w.heap.size w W) => checkValue_any k i t s lx A2 c2 W hz.2 ((hv.below hW (Nat.le_refl _)).up hW.size))
  have HWO := Lib.hid (fun W (hW : Below w.heap.size w W) => without_any l q A c W ((hl.below hW (Nat.le_refl _)).up hW.size) hN)
  have HPO : Hid (propsE l = 0 → ∀ W base w5 A5 c5, OwnAt W base (woL l q) (.slice A5 (woL l q).length c5) w5 → Calls Tryz.prog 46 #[.slice A5 (woL l q).length c5, .string q] w5 fun e w' =>
      (∃ b : Bool, e = .returned (.tuple #[.int .i64 (posL (woL l q) q), .bool b])) ∧ Below w5.heap.size w5 w') := Lib.hid (fun h0 W base w5 A5 c5 ho => by
    have hasc : Asc (woL l q) := Asc.wo (propsE_rise h0) q
    have hlen : (woL l q).length ≤ 1048576 := Nat.le_trans (woL_len l q) (by unfold propsE at h0; split at h0; exact absurd h0 (by decide); omega)
    refine (position_any (woL l q) q A5 c5 w5 (ho.psl hlen) (mono_of hasc q)).mono ?_
    rintro e w' ⟨⟨r, b, hr, h1, h2, h3, rfl⟩, hb⟩
    exact ⟨⟨b, by rw [posL_uniq hasc hr h1 h2]⟩, hb⟩)
  have HCO := Lib.hid (fun W (hW : Below w.heap.size w W) => copyOf_any k i t s lx A2 c2 w.heap.size W hW.size hz.2 (hv.below hW (Nat.le_refl _)) hNv)
  have HIN : Hid (propsE l = 0 → ∀ (v : Value) (A' : Option Addr) (c' vb base : Nat) (F2 : Nat → Prop) (W w : World), OwnAt W base (woL l q) v w → w.heap[vb]? = some (.cells #[.string q, .int .i64 k, .int .i64 i, .int .i64 t, .string s, .slice A' lx.length c'] 65 (0, 0)) → SlF w F2 lx (.slice A' lx.length c') →
      (∀ k, F2 k → k < w.heap.size ∧ v.ownBlock ≠ some k) → v.ownBlock ≠ some vb →
      Calls Tryz.prog 47 #[v, .int .i64 (posL (woL l q) q), .slice (some ⟨vb, 0, none⟩) 1 1] w fun e w' => ∃ v', e = .returned v' ∧ OwnAt W base (insL (woL l q) (posL (woL l q) q) ⟨q, .mk k i t s lx⟩) v' w') := Lib.hid (fun h0 v A' c' vb base F2 W w ho hvb hsl hF2 hvo => by
    have hlen : (woL l q).length ≤ 1000 := Nat.le_trans (woL_len l q) (by unfold propsE at h0; split at h0; exact absurd h0 (by decide); omega)
    exact insert_any (woL l q) ⟨q, .mk k i t s lx⟩ (posL (woL l q) q) v A' c' vb base F2 W w hlen ho (posL_le _ _) hvb ⟨hz.1, hz.2, hsl⟩ hF2 hvo)
  have HE : Hid (putE l q (.mk k i t s lx) = if propsE l ≠ 0 then propsE l else if nameOk q = false then 3 else if valueE (.mk k i t s lx) ≠ 0 then valueE (.mk k i t s lx) else if 20 < (putL l q (.mk k i t s lx)).length then 4 else 0) := Lib.hid rfl
  have HPL := Lib.hid (putL_len l q (.mk k i t s lx))
  have HLL : Hid (propsE l = 0 → l.length ≤ 20) := Lib.hid (fun h0 => by unfold propsE at h0; split at h0; exact absurd h0 (by decide); omega)
  have HWL : Hid ((woL l q).length ≤ l.length) := Lib.hid (woL_len l q)
  have HNE : Hid (nameE q = if nameOk q then 0 else 3) := Lib.hid rfl
  have HK0 : Hid (k = 0 → putL l q (.mk k i t s lx) = woL l q) := Lib.hid (fun h => by unfold putL; rw [if_pos (show V.kind (.mk k i t s lx) = 0 from h)])
  have HK1 : Hid (k ≠ 0 → putL l q (.mk k i t s lx) = insL (woL l q) (posL (woL l q) q) ⟨q, .mk k i t s lx⟩) := Lib.hid (fun h => by unfold putL; rw [if_neg (show ¬ V.kind (.mk k i t s lx) = 0 from h)])
  generalize hpe : putE l q (.mk k i t s lx) = pe at HE ⊢
  generalize hpl : putL l q (.mk k i t s lx) = pl at HE HPL HK0 HK1 ⊢
  obtain ⟨fe, hfe⟩ : ∃ fe, fe = propsE l := ⟨_, rfl⟩
  obtain ⟨ve, hve⟩ : ∃ ve, ve = valueE (.mk k i t s lx) := ⟨_, rfl⟩
  rw [← hfe] at HP HE HLL HPO HIN
  rw [← hve] at HVF HE
  generalize insL (woL l q) (posL (woL l q) q) ⟨q, .mk k i t s lx⟩ = il at HIN HK1
  generalize posL (woL l q) q = r at HPO HIN
  generalize woL l q = wo at HWO HPO HIN HWL HK0
  obtain ⟨n, hn⟩ : ∃ n, n = l.length := ⟨_, rfl⟩
  rw [← hn] at HP HWO HLL HPL HWL ⊢
  obtain ⟨m, hm⟩ : ∃ m, m = lx.length := ⟨_, rfl⟩
  have HM := Lib.hid hm
  rw [← hm] at HVF HCO HIN ⊢
  clear hl hv hN hNv hpe hpl hfe hve hn hm
  go_enter Tryz.func18, Tryz.ntmps18
  go_wp2_with fail
  refine (HP.out _ ((Below.refl _ w).alloc (Nat.le_refl _) _)).mono ?_
  rintro e1 w1 ⟨rfl, hb1⟩
  have hbl1 : w1.heap[w.heap.size]? = some (.cells #[.int .i64 k, .int .i64 i, .int .i64 t, .string s, .slice A2 m c2] 24 (0, 0)) := (hb1.block _ (by simp)).trans (heap_alloc_new w _)
  have HB1 := Lib.hid (((Below.refl _ w).alloc (Nat.le_refl _) _).trans (hb1.mono (by simp)))
  clear hb1
  by_cases hf0 : fe = 0
  · subst hf0
    have hsz1 := HB1.out.size
    rcases hno : nameOk q with _ | _
    · have h3 : nameE q = 3 := by rw [HNE.out, hno]; rfl
      rw [h3] at HNM
      rw [hno] at HE
      clear hbl1
      go_wp2_with fail
      refine (HNM.out _).mono ?_
      rintro e2 w2 ⟨rfl, rfl⟩
      go_wp2_with fail
      go_ret2
      have e3 : pe = 3 := by have := HE.out; simpa using this
      rw [e3]
      exact gives_bad (by decide) HB1.out
    · have h3 : nameE q = 0 := by rw [HNE.out, hno]; rfl
      rw [h3] at HNM
      rw [hno] at HE
      have HBL1 := Lib.hid hbl1
      clear hbl1
      go_wp2_with fail
      refine (HNM.out _).mono ?_
      rintro e2 w2 ⟨rfl, rfl⟩
      have hbl2 := HBL1.out
      have d0 := cell_of_row w2 _ 0 _ _ (0, 0) hbl2
      have d1 := cell_of_row w2 _ 1 _ _ (0, 0) hbl2
      have d2 := cell_of_row w2 _ 2 _ _ (0, 0) hbl2
      have d3 := cell_of_row w2 _ 3 _ _ (0, 0) hbl2
      have d4 := cell_of_row w2 _ 4 _ _ (0, 0) hbl2
      clear hbl2
      go_wp2_with fail
      refine (HVF.out _ HB1.out).mono ?_
      rintro e3 w3 ⟨rfl, hb3⟩
      have hbl3 := (hb3.block _ (lt_of_blk' HBL1.out)).trans HBL1.out
      have HB3 := Lib.hid (HB1.out.trans (hb3.mono hsz1))
      clear hb3 d0 d1 d2 d3 d4
      by_cases hv0 : ve = 0
      · subst hv0
        have HBL3 := Lib.hid hbl3
        clear hbl3
        go_wp2_with fail
        refine (HWO.out _ HB3.out).mono ?_
        rintro e4 w4 ⟨v4, rfl, hP4⟩
        have hO4 := hP4.at
        have hle3 := HB3.out.size
        have hbw4 : Below w3.heap.size w3 w4 := hP4.bel
        have hbl4 := (hbw4.block _ (lt_of_blk' HBL3.out)).trans HBL3.out
        have HB4 := Lib.hid (HB3.out.trans (hbw4.mono hle3))
        have HP4 := Lib.hid (hP4.after HB3.out)
        obtain ⟨F, xs, h1, h2, h3, h4⟩ := hO4.rep
        obtain ⟨A4, c4, rfl⟩ := own_shape h1
        have hown4 : ∀ g, (Value.slice A4 wo.length c4).ownBlock = some g → w3.heap.size ≤ g ∧ g < w4.heap.size := h1.lt
        have HO4 := Lib.hid hO4
        have HOWN4 := Lib.hid hown4
        have d0 := cell_of_row w4 _ 0 _ _ (0, 0) hbl4
        have d1 := cell_of_row w4 _ 1 _ _ (0, 0) hbl4
        have d2 := cell_of_row w4 _ 2 _ _ (0, 0) hbl4
        have d3 := cell_of_row w4 _ 3 _ _ (0, 0) hbl4
        have d4 := cell_of_row w4 _ 4 _ _ (0, 0) hbl4
        have HBL4 := Lib.hid hbl4
        have hwl := HWL.out
        have hn20 := HLL.out (by trivial)
        clear hP4 hO4 hbw4 h1 h2 h3 h4 hown4 hbl4
        by_cases hk : k = 0
        · have e5 := HK0.out hk
          subst hk
          rw [e5] at HE ⊢
          have e3 : pe = 0 := by
            have := HE.out
            have hno : ¬ 20 < wo.length := by omega
            simpa [hno] using this
          generalize hwz : wo.length = wl at HP4 hwl
          clear HPO HIN HO4 HOWN4
          go_wp2_with fail
          go_ret2
          rw [e3]
          exact ⟨_, rfl, by rw [if_pos rfl]; first | exact HP4.out | (rw [e5]; exact HP4.out)⟩
        · have HPC := Lib.hid (HPO.out (by trivial) _ _ w4 A4 c4 HO4.out)
          have e5 := HK1.out hk
          rw [e5] at HE HPL ⊢
          have hilz := HPL.out
          have HIC : Hid (∀ (wl : Nat), wl = wo.length → ∀ (A' : Option Addr) (c' vb : Nat) (F2 : Nat → Prop) (w8 : World), Below w4.heap.size w4 w8 → w8.heap[vb]? = some (.cells #[.string q, .int .i64 k, .int .i64 i, .int .i64 t, .string s, .slice A' m c'] 65 (0, 0)) → SlF w8 F2 lx (.slice A' m c') →
              (∀ k, F2 k → k < w8.heap.size ∧ (k < w3.heap.size ∨ w4.heap.size ≤ k)) → w4.heap.size ≤ vb →
              Calls Tryz.prog 47 #[.slice A4 wl c4, .int .i64 r, .slice (some ⟨vb, 0, none⟩) 1 1] w8 fun e w' => ∃ v', e = .returned v' ∧ OwnAt w3 w3.heap.size il v' w') := Lib.hid (fun wl hwl A' c' vb F2 w8 hb8 hvb8 hsl8 hF8 hvb4 => by
            subst hwl
            exact HIN.out (by trivial) _ A' c' vb w3.heap.size F2 w3 w8 (HO4.out.later hb8) hvb8 hsl8 (fun k hk => ⟨(hF8 k hk).1, fun e => by have h1 := HOWN4.out k e; have h2 := (hF8 k hk).2; omega⟩) (fun e => by have h1 := HOWN4.out vb e; omega))
          obtain ⟨wl, hwlz⟩ : ∃ wl, wl = wo.length := ⟨_, rfl⟩
          have HI2 := Lib.hid (HIC.out wl hwlz)
          have hil1 : il.length ≤ 21 := by omega
          rw [← hwlz] at HPC ⊢
          clear HIC HPO HIN HO4 HOWN4 hwlz HP4
          go_wp2_with fail
          refine HPC.out.mono ?_
          rintro e6 w6 ⟨⟨b6, rfl⟩, hb6⟩
          have hle4 := HB4.out.size
          have HB6 := Lib.hid (HB4.out.trans (hb6.mono hle4))
          have hbl6 := (hb6.block _ (lt_of_blk' HBL4.out)).trans HBL4.out
          have HB46 := Lib.hid hb6
          clear d0 d1 d2 d3 d4 hb6
          have d0 := cell_of_row w6 _ 0 _ _ (0, 0) hbl6
          have d1 := cell_of_row w6 _ 1 _ _ (0, 0) hbl6
          have d2 := cell_of_row w6 _ 2 _ _ (0, 0) hbl6
          have d3 := cell_of_row w6 _ 3 _ _ (0, 0) hbl6
          have d4 := cell_of_row w6 _ 4 _ _ (0, 0) hbl6
          clear hbl6
          go_wp2_with fail
          refine (HCO.out _ HB6.out).mono ?_
          rintro e7 w7 ⟨A', c', rfl, hs7, hb7⟩
          have hle6 := HB6.out.size
          have hs46 := HB46.out.size
          have hs67 := hb7.size
          have HB47 := Lib.hid (HB46.out.trans (hb7.mono hs46))
          have HB7 := Lib.hid (HB6.out.trans (hb7.mono hle6))
          have HS7 := Lib.hid hs7
          clear hb7 hs7 d0 d1 d2 d3 d4
          go_wp2_with fail
          refine (HI2.out A' c' w7.heap.size (fun b => (b < w.heap.size ∨ w6.heap.size ≤ b) ∧ b < w7.heap.size) _ (HB47.out.alloc (by omega) _) (heap_alloc_new w7 _) (HS7.out.keep (fun b hb => Below.heap_alloc _ _ _ hb.2) (fun b hb => hb)) (fun b hb => ⟨by simp; omega, by omega⟩) (by omega)).mono ?_
          rintro e9 w9 ⟨v9, rfl, hO9⟩
          have hB9 : Below w.heap.size w w9 := HB3.out.trans (hO9.bel.mono hle3)
          have HX := Lib.hid (hO9.pr hB9 hle3)
          have HB9 := Lib.hid hB9
          obtain ⟨F, xs, h1, h2, h3, h4⟩ := hO9.rep
          obtain ⟨A9, c9, rfl⟩ := own_shape h1
          obtain ⟨z, hz9⟩ : ∃ z, z = il.length := ⟨_, rfl⟩
          rw [← hz9] at HX HE hil1 ⊢
          clear hO9 hB9 h1 h2 h3 h4 hz9
          by_cases hbig : 20 < z
          · have p2 : (20 : Int) < z := by omega
            go_wp2_with fail
            go_ret2
            have e3 : pe = 4 := by have := HE.out; simpa [hbig] using this
            rw [e3]
            exact gives_bad (by decide) HB9.out
          · have p2 : ¬ (20 : Int) < z := by omega
            go_wp2_with fail
            go_ret2
            have e3 : pe = 0 := by have := HE.out; simpa [hbig] using this
            rw [e3]
            exact ⟨_, rfl, by rw [if_pos rfl]; first | exact HX.out | (rw [e5]; exact HX.out)⟩
      · clear hbl3
        have HV0 := Lib.hid hv0
        go_wp2_with fail
        go_ret2
        have e3 : pe = ve := by have := HE.out; simpa [HV0.out] using this
        rw [e3]
        exact gives_bad HV0.out HB3.out
  · have HF0 := Lib.hid hf0
    clear hbl1
    go_wp2_with fail
    go_ret2
    have e3 : pe = fe := by have := HE.out; simpa [HF0.out] using this
    rw [e3]
    exact gives_bad HF0.out HB1.out
end Go.Proofs.YtggnocajpnmemaaGreatDoor
