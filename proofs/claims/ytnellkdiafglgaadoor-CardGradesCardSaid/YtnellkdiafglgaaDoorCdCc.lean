/- Cards: lists of states: slices.Equal, slices.Clone; a state put into a list of one's own. -/
import Derived.Test.YtnellkdiafglgaaDoorCdCb
import Derived.Test.YtnellkdiafglgaaDoorShelf
import Derived.Shelf.SlicesQ.Equal
import Derived.WalkMore
namespace Go.Proofs.YtnellkdiafglgaaDoor
open Go.RowKit Go.Shelf Go.Joins

def StV.cellsL (x : StV) : List Value := [.int .i64 x.bl, .int .i64 x.no, .int .i64 x.st, .int .i64 x.ea, .int .i64 x.du, .int .i64 x.la, .int .i64 x.ti, .int .i64 x.lp, .int .i64 x.bu]
theorem cellsL_len (x : StV) : x.cellsL.length = 9 := rfl
def stEq (x y : StV) : Bool := if x.bl = y.bl then if x.no = y.no then if x.st = y.st then if x.ea = y.ea then if x.du = y.du then if x.la = y.la then if x.ti = y.ti then if x.lp = y.lp then if x.bu = y.bu then true else false else false else false else false else false else false else false else false else false
theorem stEq_self (x : StV) : stEq x x = true := by
  unfold stEq
  simp
theorem stAll_self : ∀ l : List StV, Lib.allEq stEq l l = true
  | [] => rfl
  | x :: l => by
    unfold Lib.allEq
    rw [stEq_self, stAll_self l]
    rfl
instance : Inhabited StV := ⟨StV.zero⟩
theorem stNeq : NeqAt Tryd.prog 23 (fun x : StV => .agg x.cellsL.toArray) stEq := by
  refine ⟨fun x y w => ?_, GuardAt.agg _ (by kernel_rfl)⟩
  show (binOp .neq 23 (.agg #[.int .i64 x.bl, .int .i64 x.no, .int .i64 x.st, .int .i64 x.ea, .int .i64 x.du, .int .i64 x.la, .int .i64 x.ti, .int .i64 x.lp, .int .i64 x.bu]) (.agg #[.int .i64 y.bl, .int .i64 y.no, .int .i64 y.st, .int .i64 y.ea, .int .i64 y.du, .int .i64 y.la, .int .i64 y.ti, .int .i64 y.lp, .int .i64 y.bu])).run Tryd.prog w = _
  go_simp
  unfold stEq
  repeat' split
  all_goals rfl
def stRen : Go.Shelf.Ren := ⟨fun | 8 => 29 | n => n, fun | 22 => 43 | 24 => 23 | 3 => 3 | 4 => 4 | n => n, fun | n => n⟩
theorem stLays : SlLaysQ.n8 Tryd.prog stRen := {
  mixed := by kernel_rfl
  f8 := ⟨"slices.Equal[[]florilegium/card.State,florilegium/card.State]", by decide, Tryd.func29.trans (congrArg some (by kernel_rfl))⟩
  t0 := Tryd.underlying0
  a0 := Tryd.isAgg0
  z0 := Tryd.sizeOf0
  v0 := Tryd.zeroValue0
  t3 := Tryd.underlying3
  a3 := Tryd.isAgg3
  z3 := Tryd.sizeOf3
  v3 := Tryd.zeroValue3
  t4 := Tryd.underlying4
  a4 := Tryd.isAgg4
  z4 := Tryd.sizeOf4
  v4 := Tryd.zeroValue4
  t22 := Tryd.underlying43
  a22 := Tryd.isAgg43
  z22 := Tryd.sizeOf43
  v22 := Tryd.zeroValue43 }
theorem stNil_any (a b : Option Addr) (c d : Nat) (w : World) : Calls Tryd.prog 29 #[.slice a 0 c, .slice b 0 d] w fun e w' => e = .returned (.bool true) ∧ Below w.heap.size w w' := by
  go_enter Tryd.func29, Tryd.ntmps29
  go_wp2
  go_loop [13] (fun i => i = .int .i64 0) (fun _ => 0)
  case atStart => rfl
  case round =>
    subst hrel
    go_wp2
    go_ret
    exact ⟨rfl, Below.refl _ _⟩
theorem sts_hat {w : World} {l : List StV} {b o : Nat} {B : Nat} (h : StVsAt w B (some ⟨b, o, none⟩) l) : ∀ j, j < l.length → ∀ i v, (l[j]!.cellsL)[i]? = some v → w.cell? ⟨b, o + j * 9 + i, none⟩ = some v := by
  intro j hj i v hv
  obtain ⟨b', o', hA, hB, c0, c1, c2, c3, c4, c5, c6, c7, c8⟩ := h j _ (List.getElem?_eq_getElem hj)
  simp only [Option.some.injEq, Addr.mk.injEq, and_true] at hA
  obtain ⟨rfl, rfl⟩ := hA
  rw [getElem!_pos l j hj] at hv
  have hi : i < 9 := by
    have := (List.getElem?_eq_some_iff.1 hv).1
    rwa [cellsL_len] at this
  rcases (by omega : i = 0 ∨ i = 1 ∨ i = 2 ∨ i = 3 ∨ i = 4 ∨ i = 5 ∨ i = 6 ∨ i = 7 ∨ i = 8) with rfl | rfl | rfl | rfl | rfl | rfl | rfl | rfl | rfl <;> (simp [StV.cellsL] at hv; subst hv; first | exact c0 | exact c1 | exact c2 | exact c3 | exact c4 | exact c5 | exact c6 | exact c7 | exact c8)
/-- Two lists of the same states are equal. -/
theorem statesEqual_any (l : List StV) (A1 A2 : Option Addr) (c1 c2 : Nat) (w : World) (hl : l.length ≤ 1000000) (h1 : StVsAt w w.heap.size A1 l) (h2 : StVsAt w w.heap.size A2 l) :
    Calls Tryd.prog 29 #[.slice A1 l.length c1, .slice A2 l.length c2] w fun e w' => e = .returned (.bool true) ∧ Below w.heap.size w w' := by
  by_cases h0 : l.length = 0
  · rw [h0]
    exact stNil_any _ _ _ _ w
  · obtain ⟨b1, o1, rfl, _⟩ := h1 0 _ (List.getElem?_eq_getElem (by omega))
    obtain ⟨b2, o2, rfl, _⟩ := h2 0 _ (List.getElem?_eq_getElem (by omega))
    refine (AnyQ.slices_Equal stLays 9 Tryd.isAgg23 Tryd.sizeOf23 StV.cellsL cellsL_len stEq stNeq b1 o1 l.length c1 b2 o2 l.length c2 l l w (Nat.le_refl _) (Nat.le_refl _) (by omega) (by omega) (sts_hat h1) (sts_hat h2)).mono ?_
    rintro e w' ⟨rfl, q, hq⟩
    rw [List.take_length, stAll_self]
    exact ⟨rfl, by rw [hq]; exact below_drewN (Below.refl _ _) q⟩
theorem infoSt : (Tryd.prog.info? 23).map (fun i => (i.zero, i.size, i.bytes)) = some (some (.agg #[.int .i64 0, .int .i64 0, .int .i64 0, .int .i64 0, .int .i64 0, .int .i64 0, .int .i64 0, .int .i64 0, .int .i64 0]), 9, 72) := by kernel_rfl
theorem stc_len (l : List StV) : (l.flatMap StV.cellsL).length = l.length * 9 := by
  induction l with
  | nil => rfl
  | cons a l ih => rw [List.flatMap_cons, List.length_append, ih]; simp [StV.cellsL]; omega
theorem stc_at (l : List StV) : ∀ (j i : Nat) (hj : j < l.length), i < 9 → (l.flatMap StV.cellsL)[j * 9 + i]? = (l[j].cellsL)[i]? := by
  induction l with
  | nil => intro j i hj; exact absurd hj (by simp)
  | cons a l ih =>
    intro j i hj hi
    rw [List.flatMap_cons]
    match j, hj with
    | 0, _ => rw [List.getElem?_append_left (by simp [StV.cellsL]; omega)]; simp
    | j + 1, hj =>
      rw [List.getElem?_append_right (by simp [StV.cellsL]; omega)]
      have e : (j + 1) * 9 + i - a.cellsL.length = j * 9 + i := by simp [StV.cellsL]; omega
      rw [e, ih j i (by simpa using hj) hi]
      rfl
theorem stc_one (l : List StV) : ∀ u ∈ l.flatMap StV.cellsL, u.oneCell' = true := by
  intro u hu
  obtain ⟨r, _, h⟩ := List.mem_flatMap.1 hu
  simp [StV.cellsL] at h
  rcases h with rfl | rfl | rfl | rfl | rfl | rfl | rfl | rfl | rfl <;> rfl
/-- A list of states in a block of its own. -/
structure StOwn (w : World) (g : Nat) (l : List StV) (wr : World) : Prop where
  bel : Below w.heap.size w wr
  lo : w.heap.size ≤ g
  at_ : StVsAt wr wr.heap.size (some ⟨g, 0, none⟩) l
  warm : ∀ j, wr.frozen? ⟨g, j, none⟩ = false
set_option maxRecDepth 100000 in
set_option maxHeartbeats 4000000 in
theorem stClone_at (l : List StV) (ad : Addr) (c : Nat) (w : World) (h0 : 0 < l.length) (h1 : l.length ≤ 1000000)
    (g2 : ∀ j u, (l.flatMap StV.cellsL)[j]? = some u → (w.alloc (.cells #[] 23)).cell? (ad.add j) = some u) :
    Calls Tryd.prog 54 #[.slice (some ad) l.length c] w fun e w' => ∃ g c', e = .returned (.slice (some ⟨g, 0, none⟩) l.length c') ∧ StOwn w g l w' := by
  obtain ⟨i0, hi, hz0, hz1, hz2⟩ := info_parts infoSt
  have HNEWS := Lib.hid g2
  have HG1 := Lib.hid (stc_len l)
  have HG3 := Lib.hid (stc_one l)
  have HAT := Lib.hid (stc_at l)
  have HOWN : Hid ((w.alloc (.cells #[] 23)).ownsRow w.heap.size 23 9 (.slice (some ⟨w.heap.size, 0, none⟩) 0 0) 0 []) := Lib.hid ⟨rfl, .inr ⟨w.heap.size, 0, #[], rfl, Nat.le_refl _, heap_alloc_new w _, Nat.le_refl _, Nat.zero_le _, rfl, rfl⟩⟩
  obtain ⟨N, hN⟩ : ∃ N, N = l.length := ⟨_, rfl⟩
  have HN := Lib.hid hN
  rw [← hN] at h0 h1 HG1 ⊢
  have hop : ∀ W : World, (binOp .eql 43 (.slice (some ad) N c) (.slice none 0 0)).run Tryd.prog W = .ok (.bool false) W := fun _ => rfl
  clear g2 hN
  go_enter Tryd.func54, Tryd.ntmps54
  go_wp2_with (at_builtin; refine wpList_append_own _ rfl _ _ 43 rfl w.heap.size 23 i0 _ 9 72 Tryd.underlying43 hi hz0 hz1 hz2 rfl (by omega) _ 0 [] rfl HOWN.out ad N c (l.flatMap StV.cellsL) rfl HG1.out HNEWS.out HG3.out (by unfold maxLen; omega) (by omega) (by simp) ?_)
  intro v' w4 hown4 hgrow4 _
  have hbel4 : Below w.heap.size w w4 := ((Below.refl _ w).alloc (Nat.le_refl _) _).grown hgrow4 (by simp) (fun k hk => by simp [Value.ownBlock] at hk; omega)
  have HX : Hid (∃ g c', Ending.returned v' = .returned (.slice (some ⟨g, 0, none⟩) N c') ∧ StOwn w g l w4) := Lib.hid (by
    try rw [Nat.zero_add] at hown4
    rcases hown4.2 with ⟨hv, hz⟩ | ⟨g, cap, cur, hv, hg, hb, hc, hm, hcs, ht⟩
    · omega
    · refine ⟨g, cap, by rw [hv], hbel4, hg, fun j x hj => ?_, fun j => frozen_of_row w4 g j _ _ hb⟩
      obtain ⟨hjl, hje⟩ := List.getElem?_eq_some_iff.1 hj
      have hcell : ∀ i, i < 9 → w4.cell? ⟨g, 0 + j * 9 + i, none⟩ = (x.cellsL)[i]? := by
        intro i hi9
        have hjn : j < N := by rw [HN.out]; exact hjl
        rw [Nat.zero_add, cell_of_row w4 g _ _ _ _ hb, ← hje, ← HAT.out j i hjl hi9]
        have h1 : (cur.toList.take (N * 9))[j * 9 + i]? = cur[j * 9 + i]? := by
          rw [List.getElem?_take, if_pos (by omega)]
          simp
        rw [← h1, ht]
      exact ⟨g, 0, rfl, lt_of_block hb, hcell 0 (by omega), hcell 1 (by omega), hcell 2 (by omega), hcell 3 (by omega), hcell 4 (by omega), hcell 5 (by omega), hcell 6 (by omega), hcell 7 (by omega), hcell 8 (by omega)⟩)
  clear hown4 hgrow4 hbel4 HOWN HNEWS
  go_wp2_with fail
  go_ret
  exact HX.out
theorem stClone_any (l : List StV) (A : Option Addr) (c : Nat) (w : World) (h0 : 0 < l.length) (h1 : l.length ≤ 1000000) (hl : StVsAt w w.heap.size A l) :
    Calls Tryd.prog 54 #[.slice A l.length c] w fun e w' => ∃ g c', e = .returned (.slice (some ⟨g, 0, none⟩) l.length c') ∧ StOwn w g l w' := by
  obtain ⟨b, o, rfl, _⟩ := hl 0 _ (List.getElem?_eq_getElem h0)
  refine stClone_at l ⟨b, o, none⟩ c w h0 h1 (fun j u hj => ?_)
  have hjl : j < l.length * 9 := by rw [← stc_len]; exact (List.getElem?_eq_some_iff.1 hj).1
  obtain ⟨q, i, rfl, hi⟩ : ∃ q i, j = q * 9 + i ∧ i < 9 := ⟨j / 9, j % 9, by omega, by omega⟩
  have hq : q < l.length := by omega
  rw [stc_at l q i hq hi] at hj
  have hh := sts_hat hl q hq i u (by rw [getElem!_pos l q hq]; exact hj)
  rw [addr_plus, ← Nat.add_assoc, ((Below.refl w.heap.size w).alloc (Nat.le_refl _) _).cell (p := ⟨b, _, none⟩) (World.block_lt_of_cell? w _ hh)]
  exact hh
end Go.Proofs.YtnellkdiafglgaaDoor
