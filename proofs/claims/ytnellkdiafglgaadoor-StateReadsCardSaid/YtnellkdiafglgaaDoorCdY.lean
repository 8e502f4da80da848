/- Cards: slices.Clone of reviews, slices.IsSorted of four numbers; both numbers of a list's reviews written. -/
import Derived.Test.YtnellkdiafglgaaDoorCdR
import Derived.Test.YtnellkdiafglgaaDoorCdM
namespace Go.Proofs.YtnellkdiafglgaaDoor
open Go.RowKit Go.Shelf Go.Joins

theorem infoRv : (Tryd.prog.info? 53).map (fun i => (i.zero, i.size, i.bytes)) = some (some (.agg #[.int .i64 0, .int .i64 0, .int .i64 0, .int .i64 0]), 4, 32) := by kernel_rfl
def RvV.cells (r : RvV) : List Value := [.int .i64 r.bl, .int .i64 r.no, .int .i64 r.gr, .int .i64 r.dy]
theorem rvc_len (l : List RvV) : (l.flatMap RvV.cells).length = l.length * 4 := by
  induction l with
  | nil => rfl
  | cons a l ih => rw [List.flatMap_cons, List.length_append, ih]; simp [RvV.cells]; omega
theorem rvc_at (l : List RvV) : ∀ (j i : Nat) (hj : j < l.length), i < 4 → (l.flatMap RvV.cells)[j * 4 + i]? = (l[j].cells)[i]? := by
  induction l with
  | nil => intro j i hj; exact absurd hj (by simp)
  | cons a l ih =>
    intro j i hj hi
    rw [List.flatMap_cons]
    match j, hj with
    | 0, _ => rw [List.getElem?_append_left (by simp [RvV.cells]; omega)]; simp
    | j + 1, hj =>
      rw [List.getElem?_append_right (by simp [RvV.cells]; omega)]
      have e : (j + 1) * 4 + i - a.cells.length = j * 4 + i := by simp [RvV.cells]; omega
      rw [e, ih j i (by simpa using hj) hi]
      rfl
theorem rvc_one (l : List RvV) : ∀ u ∈ l.flatMap RvV.cells, u.oneCell' = true := by
  intro u hu
  obtain ⟨r, _, h⟩ := List.mem_flatMap.1 hu
  simp [RvV.cells] at h
  rcases h with rfl | rfl | rfl | rfl <;> rfl
/-- A list of reviews in a block of its own, the first k of which bear b and n. -/
structure RvOwn (w : World) (B g : Nat) (b n : Int) (l : List RvV) (k : Nat) (wr : World) : Prop where
  bel : Below w.heap.size w wr
  lo : B ≤ g
  cell : ∀ j (h : j < l.length), wr.cell? ⟨g, j * 4, none⟩ = some (.int .i64 (if j < k then b else l[j].bl)) ∧ wr.cell? ⟨g, j * 4 + 1, none⟩ = some (.int .i64 (if j < k then n else l[j].no)) ∧ wr.cell? ⟨g, j * 4 + 2, none⟩ = some (.int .i64 l[j].gr) ∧ wr.cell? ⟨g, j * 4 + 3, none⟩ = some (.int .i64 l[j].dy)
  warm : ∀ j, wr.frozen? ⟨g, j, none⟩ = false
def GivesRvs (w : World) (b n : Int) (l : List RvV) (e : Ending) (w' : World) : Prop :=
  Below w.heap.size w w' ∧ ((l = [] ∧ ∃ A c, e = .returned (.slice A 0 c)) ∨ ∃ g c, e = .returned (.slice (some ⟨g, 0, none⟩) l.length c) ∧ RvOwn w w.heap.size g b n l 0 w')
set_option maxRecDepth 100000 in
theorem clone_none (c : Nat) (b n : Int) (w : World) : Calls Tryd.prog 33 #[.slice none 0 c] w (GivesRvs w b n []) := by
  have hop : ∀ W : World, (binOp .eql 39 (.slice none 0 c) (.slice none 0 0)).run Tryd.prog W = .ok (.bool true) W := fun _ => rfl
  go_enter Tryd.func33, Tryd.ntmps33
  go_wp2_with fail
  go_ret
  exact ⟨Below.refl _ _, .inl ⟨rfl, _, _, rfl⟩⟩
set_option maxRecDepth 100000 in
set_option maxHeartbeats 4000000 in
theorem clone_at (l : List RvV) (ad : Addr) (c : Nat) (b n : Int) (w : World) (h1 : l.length ≤ 1000000)
    (g2 : ∀ j u, (l.flatMap RvV.cells)[j]? = some u → (w.alloc (.cells #[] 53)).cell? (ad.add j) = some u) :
    Calls Tryd.prog 33 #[.slice (some ad) l.length c] w (GivesRvs w b n l) := by
  obtain ⟨i0, hi, hz0, hz1, hz2⟩ := info_parts infoRv
  have HNEWS := Lib.hid g2
  have HG1 := Lib.hid (rvc_len l)
  have HG3 := Lib.hid (rvc_one l)
  have HAT := Lib.hid (rvc_at l)
  have HOWN : Hid ((w.alloc (.cells #[] 53)).ownsRow w.heap.size 53 4 (.slice (some ⟨w.heap.size, 0, none⟩) 0 0) 0 []) := Lib.hid ⟨rfl, .inr ⟨w.heap.size, 0, #[], rfl, Nat.le_refl _, heap_alloc_new w _, Nat.le_refl _, Nat.zero_le _, rfl, rfl⟩⟩
  obtain ⟨N, hN⟩ : ∃ N, N = l.length := ⟨_, rfl⟩
  have HN := Lib.hid hN
  rw [← hN] at h1 HG1 ⊢
  have hop : ∀ W : World, (binOp .eql 39 (.slice (some ad) N c) (.slice none 0 0)).run Tryd.prog W = .ok (.bool false) W := fun _ => rfl
  clear g2 hN
  go_enter Tryd.func33, Tryd.ntmps33
  go_wp2_with (at_builtin; refine wpList_append_own _ rfl _ _ 39 rfl w.heap.size 53 i0 _ 4 32 Tryd.underlying39 hi hz0 hz1 hz2 rfl (by omega) _ 0 [] rfl HOWN.out ad N c (l.flatMap RvV.cells) rfl HG1.out HNEWS.out HG3.out (by unfold maxLen; omega) (by omega) (by simp) ?_)
  intro v' w4 hown4 hgrow4 _
  have hbel4 : Below w.heap.size w w4 := ((Below.refl _ w).alloc (Nat.le_refl _) _).grown hgrow4 (by simp) (fun k hk => by simp [Value.ownBlock] at hk; omega)
  have HX : Hid (GivesRvs w b n l (.returned v') w4) := Lib.hid (by
    refine ⟨hbel4, ?_⟩
    try rw [Nat.zero_add] at hown4
    rcases hown4.2 with ⟨hv, h0⟩ | ⟨g, cap, cur, hv, hg, hb, hc, hm, hcs, ht⟩
    · exact .inl ⟨List.eq_nil_of_length_eq_zero (by rw [← HN.out]; exact h0), none, 0, by rw [hv]⟩
    · refine .inr ⟨g, cap, by rw [hv, HN.out], hbel4, hg, fun j hj => ?_, fun j => frozen_of_row w4 g j _ _ hb⟩
      have hcell : ∀ i, i < 4 → w4.cell? ⟨g, j * 4 + i, none⟩ = (l[j].cells)[i]? := by
        intro i hi4
        have hjn : j < N := by rw [HN.out]; exact hj
        rw [cell_of_row w4 g _ _ _ _ hb, ← HAT.out j i hj hi4]
        have h1 : (cur.toList.take (N * 4))[j * 4 + i]? = cur[j * 4 + i]? := by
          rw [List.getElem?_take, if_pos (by omega)]
          simp
        rw [← h1, ht]
      rw [if_neg (Nat.not_lt_zero _), if_neg (Nat.not_lt_zero _)]
      exact ⟨hcell 0 (by omega), hcell 1 (by omega), hcell 2 (by omega), hcell 3 (by omega)⟩)
  clear hown4 hgrow4 hbel4 HOWN HNEWS
  go_wp2_with fail
  go_ret
  exact HX.out
theorem clone_any (l : List RvV) (A : Option Addr) (c : Nat) (b n : Int) (w : World) (h1 : l.length ≤ 1000000) (hl : RvVsAt w w.heap.size A l) :
    Calls Tryd.prog 33 #[.slice A l.length c] w (GivesRvs w b n l) := by
  rcases A with _ | ad
  · have h0 : l = [] := by
      match l, hl with
      | [], _ => rfl
      | r :: l, hl => obtain ⟨b', o, hA, _⟩ := hl 0 r rfl; cases hA
    subst h0
    exact clone_none c b n w
  · refine clone_at l ad c b n w h1 (fun j u hj => ?_)
    have hjl : j < l.length * 4 := by rw [← rvc_len]; exact (List.getElem?_eq_some_iff.1 hj).1
    obtain ⟨q, i, rfl, hi⟩ : ∃ q i, j = q * 4 + i ∧ i < 4 := ⟨j / 4, j % 4, by omega, by omega⟩
    have hq : q < l.length := by omega
    rw [rvc_at l q i hq hi] at hj
    obtain ⟨b', o, hA, hB, c0, c1, c2, c3⟩ := hl q _ (List.getElem?_eq_getElem hq)
    cases hA
    rw [addr_plus, ((Below.refl w.heap.size w).alloc (Nat.le_refl _) _).cell (p := ⟨b', _, none⟩) hB]
    rcases (by omega : i = 0 ∨ i = 1 ∨ i = 2 ∨ i = 3) with rfl | rfl | rfl | rfl
    · simp [RvV.cells] at hj; subst hj; exact c0
    · simp [RvV.cells] at hj; subst hj; rw [← Nat.add_assoc]; exact c1
    · simp [RvV.cells] at hj; subst hj; rw [← Nat.add_assoc]; exact c2
    · simp [RvV.cells] at hj; subst hj; rw [← Nat.add_assoc]; exact c3
/-- One more review bears both numbers. -/
theorem RvOwn.step {w wr : World} {B g : Nat} {b n : Int} {l : List RvV} {k : Nat} (h : RvOwn w B g b n l k wr) (hg : w.heap.size ≤ g) (hk : k < l.length) :
    RvOwn w B g b n l (k + 1) ((wr.setCell ⟨g, k * 4, none⟩ (.int .i64 b)).setCell ⟨g, k * 4 + 1, none⟩ (.int .i64 n)) := by
  refine ⟨(h.bel.setCell hg _).setCell hg _, h.lo, fun j hj => ?_, fun j => by simpa using h.warm j⟩
  obtain ⟨c0, c1, c2, c3⟩ := h.cell j hj
  obtain ⟨d0, d1, -, -⟩ := h.cell k hk
  have ne : ∀ (p q : Nat), p ≠ q → (⟨g, p, none⟩ : Addr) ≠ ⟨g, q, none⟩ := fun p q hpq he => hpq (by cases he; rfl)
  have t2 : ∀ (q : Nat) v, q ≠ k * 4 → q ≠ k * 4 + 1 → wr.cell? ⟨g, q, none⟩ = some v → ((wr.setCell ⟨g, k * 4, none⟩ (.int .i64 b)).setCell ⟨g, k * 4 + 1, none⟩ (.int .i64 n)).cell? ⟨g, q, none⟩ = some v := fun q v h1 h2 h3 => by
    rw [World.cell?_setCell_other _ _ _ _ (ne _ _ (Ne.symm h2)), World.cell?_setCell_other _ _ _ _ (ne _ _ (Ne.symm h1))]
    exact h3
  by_cases hjk : j = k
  · subst hjk
    rw [if_pos (by omega), if_pos (by omega)]
    refine ⟨?_, ?_, t2 _ _ (by omega) (by omega) c2, t2 _ _ (by omega) (by omega) c3⟩
    · rw [World.cell?_setCell_other _ _ _ _ (ne (j * 4 + 1) (j * 4) (by omega))]
      exact World.cell?_setCell_same _ _ _ d0
    · exact World.cell?_setCell_same _ _ _ (by rw [World.cell?_setCell_other _ _ _ _ (ne (j * 4) (j * 4 + 1) (by omega))]; exact d1)
  · have e1 : (if j < k + 1 then b else l[j].bl) = (if j < k then b else l[j].bl) := by
      by_cases h : j < k
      · rw [if_pos h, if_pos (by omega)]
      · rw [if_neg h, if_neg (by omega)]
    have e2 : (if j < k + 1 then n else l[j].no) = (if j < k then n else l[j].no) := by
      by_cases h : j < k
      · rw [if_pos h, if_pos (by omega)]
      · rw [if_neg h, if_neg (by omega)]
    rw [e1, e2]
    exact ⟨t2 _ _ (by omega) (by omega) c0, t2 _ _ (by omega) (by omega) c1, t2 _ _ (by omega) (by omega) c2, t2 _ _ (by omega) (by omega) c3⟩
theorem RvOwn.drew {w wr : World} {B g : Nat} {b n : Int} {l : List RvV} {k : Nat} (h : RvOwn w B g b n l k wr) : RvOwn w B g b n l k wr.drew := ⟨h.bel.drew, h.lo, h.cell, h.warm⟩
def markL (b n : Int) (l : List RvV) : List RvV := l.map fun r => ⟨b, n, r.gr, r.dy⟩
theorem markL_len (b n : Int) (l : List RvV) : (markL b n l).length = l.length := by simp [markL]
theorem RvOwn.done {w wr : World} {B g : Nat} {b n : Int} {l : List RvV} (h : RvOwn w B g b n l l.length wr) : RvVsAt wr wr.heap.size (some ⟨g, 0, none⟩) (markL b n l) := by
  intro k x hk
  obtain ⟨hkl, hke⟩ := List.getElem?_eq_some_iff.1 hk
  rw [markL_len] at hkl
  obtain ⟨c0, c1, c2, c3⟩ := h.cell k hkl
  rw [if_pos hkl] at c0 c1
  have hx : x = ⟨b, n, l[k].gr, l[k].dy⟩ := by rw [← hke]; simp [markL]
  subst hx
  exact ⟨g, 0, rfl, World.block_lt_of_cell? wr _ c0, by rw [Nat.zero_add]; exact c0, by rw [Nat.zero_add]; exact c1, by rw [Nat.zero_add]; exact c2, by rw [Nat.zero_add]; exact c3⟩
end Go.Proofs.YtnellkdiafglgaaDoor
