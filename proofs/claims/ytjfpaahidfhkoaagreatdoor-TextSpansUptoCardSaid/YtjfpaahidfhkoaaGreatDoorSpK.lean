/- slices.Equal at the spans, at numbers, at strings: two rows with the same cells are equal. -/
import Derived.Test.YtjfpaahidfhkoaaGreatDoorSpI
import Derived.Test.YtjfpaahidfhkoaaGreatDoorShelf
import Derived.Shelf.SlicesQ.Equal
import Derived.WalkKit
import Derived.Lib.Hide
import Derived.Outline
import Derived.WalkMore
namespace Go.Proofs.YtjfpaahidfhkoaaGreatDoor
open Go.RowKit Go.Shelf

def spEq (x y : Sp) : Bool :=
  if (x.kind : Int) = y.kind then if (x.from_ : Int) = y.from_ then if (x.to_ : Int) = y.to_ then if x.text.toList = y.text.toList then if x.shw.toList = y.shw.toList then if (x.id : Int) = y.id then
    if x.strong = y.strong then true else false else false else false else false else false else false else false
theorem spEq_self (x : Sp) : spEq x x = true := by
  unfold spEq
  simp
theorem allEq_self : ∀ l : List Sp, Lib.allEq spEq l l = true
  | [] => rfl
  | x :: l => by
    unfold Lib.allEq
    rw [spEq_self, allEq_self l]
    rfl
instance : Inhabited Sp := ⟨⟨0, 0, 0, ⟨#[]⟩, ⟨#[]⟩, 0, false⟩⟩
theorem spNeq : NeqAt Tryz.prog 27 (fun x : Sp => .agg x.cells.toArray) spEq := by
  refine ⟨fun x y w => ?_, GuardAt.agg _ (by kernel_rfl)⟩
  show (binOp .neq 27 x.val y.val).run Tryz.prog w = _
  unfold Sp.val
  go_simp
  unfold spEq
  repeat' split
  all_goals rfl
def spRen : Go.Shelf.Ren := ⟨fun | 8 => 8 | n => n, fun | 22 => 25 | 24 => 27 | 3 => 3 | 4 => 4 | n => n, fun | n => n⟩
theorem spLays : SlLaysQ.n8 Tryz.prog spRen := {
  mixed := by kernel_rfl
  f8 := ⟨"slices.Equal[[]florilegium/text.Span,florilegium/text.Span]", by decide, Tryz.func8.trans (congrArg some (by kernel_rfl))⟩
  t0 := Tryz.underlying0
  a0 := Tryz.isAgg0
  z0 := Tryz.sizeOf0
  v0 := Tryz.zeroValue0
  t3 := Tryz.underlying3
  a3 := Tryz.isAgg3
  z3 := Tryz.sizeOf3
  v3 := Tryz.zeroValue3
  t4 := Tryz.underlying4
  a4 := Tryz.isAgg4
  z4 := Tryz.sizeOf4
  v4 := Tryz.zeroValue4
  t22 := Tryz.underlying25
  a22 := Tryz.isAgg25
  z22 := Tryz.sizeOf25
  v22 := Tryz.zeroValue25 }

theorem quiet_drewN {w w' : World} (h : ∃ q, w' = w.drewN q) : Below w.heap.size w w' := by
  obtain ⟨q, rfl⟩ := h
  exact below_drewN w q

theorem spanNil_any (a b : Option Addr) (c d : Nat) (w : World) : Calls Tryz.prog 8 #[.slice a 0 c, .slice b 0 d] w (Quiet w (.bool true)) := by
  go_enter Tryz.func8, Tryz.ntmps8
  go_wp2
  go_loop [13] (fun i => i = .int .i64 0) (fun _ => 0)
  case atStart => rfl
  case round =>
    subst hrel
    go_wp2
    go_ret
    exact ⟨rfl, Below.refl _ _⟩
theorem spansEqual_any {b1 b2 : Nat} (v1 v2 : Value) (l : List Sp) (w : World) (hl : l.length ≤ 4000000000) (h1 : w.ownsRow b1 27 7 v1 l.length (l.flatMap Sp.cells)) (h2 : w.ownsRow b2 27 7 v2 l.length (l.flatMap Sp.cells)) :
    Calls Tryz.prog 8 #[v1, v2] w (Quiet w (.bool true)) := by
  obtain ⟨a1, c1, rfl, g1⟩ := own_slice h1 (by omega)
  obtain ⟨a2, c2, rfl, g2⟩ := own_slice h2 (by omega)
  by_cases h0 : l.length = 0
  · rw [h0]
    exact spanNil_any _ _ _ _ w
  · obtain ⟨n1, rfl, _, _⟩ := g1 (by omega)
    obtain ⟨n2, rfl, _, _⟩ := g2 (by omega)
    have hat : ∀ (b n : Nat) (cc : Nat), w.ownsRow b 27 7 (.slice (some ⟨n, 0, none⟩) l.length cc) l.length (l.flatMap Sp.cells) → ∀ j, j < l.length → ∀ i v, (l[j]!.cells)[i]? = some v → w.cell? ⟨n, 0 + j * 7 + i, none⟩ = some v := by
      intro b n cc h j hj i v hv
      have hi : i < 7 := by
        have := (List.getElem?_eq_some_iff.1 hv).1
        rwa [Sp.cells_len] at this
      have e1 := h.cellAt (j * 7 + i) (by omega)
      have e2 := flat_at l j hj i hi
      rw [getElem!_pos l j hj] at hv
      rw [Nat.zero_add]
      exact (e1.trans e2).trans hv
    refine (AnyQ.slices_Equal spLays 7 Tryz.isAgg27 Tryz.sizeOf27 Sp.cells Sp.cells_len spEq spNeq n1 0 l.length c1 n2 0 l.length c2 l l w (Nat.le_refl _) (Nat.le_refl _) (by omega) (by omega) (hat _ _ _ h1) (hat _ _ _ h2)).mono ?_
    rintro e w' ⟨rfl, hq⟩
    rw [List.take_length, allEq_self]
    exact ⟨rfl, quiet_drewN hq⟩

theorem strsEqual_any {b1 b2 : Nat} (v1 v2 : Value) (l : List ByteArray) (w : World) (hl : l.length ≤ 4000000000) (h1 : w.ownsRow b1 9 1 v1 (strs l).length (strs l)) (h2 : w.ownsRow b2 9 1 v2 (strs l).length (strs l)) :
    Calls Tryz.prog 13 #[v1, v2] w (Quiet w (.bool true)) := by
  rw [strs_len] at h1 h2
  obtain ⟨a1, c1, rfl, g1⟩ := own_slice h1 (by omega)
  obtain ⟨a2, c2, rfl, g2⟩ := own_slice h2 (by omega)
  by_cases h0 : l.length = 0
  · rw [h0]
    refine (Tryz.slices_Equal_string_empty a1 a2 c1 0 c2 w (by omega)).mono ?_
    rintro e w' ⟨rfl, rfl⟩
    exact ⟨rfl, Below.refl _ _⟩
  · obtain ⟨n1, rfl, _, _⟩ := g1 (by omega)
    obtain ⟨n2, rfl, _, _⟩ := g2 (by omega)
    have hat : ∀ (b n : Nat) (cc : Nat), w.ownsRow b 9 1 (.slice (some ⟨n, 0, none⟩) l.length cc) l.length (strs l) → ∀ j, j < l.length → w.cell? ⟨n, 0 + j, none⟩ = some (.string (l.getD j ByteArray.empty)) := by
      intro b n cc h j hj
      have e1 := h.cellAt j (by omega)
      rw [Nat.zero_add, e1]
      unfold strs
      rw [List.getElem?_map, List.getD_eq_getElem?_getD, List.getElem?_eq_getElem hj]
      rfl
    refine (Tryz.slices_Equal_string n1 0 l.length c1 n2 0 l.length c2 l l w (Nat.le_refl _) (Nat.le_refl _) (by omega) (by omega) (hat _ _ _ h1) (hat _ _ _ h2)).mono ?_
    rintro e w' ⟨rfl, hq⟩
    exact ⟨by simp, quiet_drewN hq⟩
theorem natsEqual_any {b1 b2 : Nat} (v1 v2 : Value) (l : List Nat) (w : World) (hl : l.length ≤ 4000000000) (h1 : w.ownsRow b1 3 1 v1 (nats l).length (nats l)) (h2 : w.ownsRow b2 3 1 v2 (nats l).length (nats l)) :
    Calls Tryz.prog 16 #[v1, v2] w (Quiet w (.bool true)) := by
  rw [nats_len] at h1 h2
  obtain ⟨a1, c1, rfl, g1⟩ := own_slice h1 (by omega)
  obtain ⟨a2, c2, rfl, g2⟩ := own_slice h2 (by omega)
  by_cases h0 : l.length = 0
  · rw [h0]
    refine (Tryz.slices_Equal_int_empty a1 a2 c1 0 c2 w (by omega)).mono ?_
    rintro e w' ⟨rfl, rfl⟩
    exact ⟨rfl, Below.refl _ _⟩
  · obtain ⟨n1, rfl, _, _⟩ := g1 (by omega)
    obtain ⟨n2, rfl, _, _⟩ := g2 (by omega)
    have hat : ∀ (b n : Nat) (cc : Nat), w.ownsRow b 3 1 (.slice (some ⟨n, 0, none⟩) l.length cc) l.length (nats l) → ∀ j, j < (l.map fun (n : Nat) => (n : Int)).length → w.cell? ⟨n, 0 + j, none⟩ = some (.int .i64 ((l.map fun (n : Nat) => (n : Int)).getD j 0)) := by
      intro b n cc h j hj
      rw [List.length_map] at hj
      have e1 := h.cellAt j (by omega)
      rw [Nat.zero_add, e1]
      unfold nats
      rw [List.getElem?_map, List.getD_eq_getElem?_getD, List.getElem?_map, List.getElem?_eq_getElem hj]
      rfl
    refine (Tryz.slices_Equal_int n1 0 l.length c1 n2 0 l.length c2 (l.map fun (n : Nat) => (n : Int)) (l.map fun (n : Nat) => (n : Int)) w (by simp) (by simp) (by omega) (by omega) (hat _ _ _ h1) (hat _ _ _ h2)).mono ?_
    rintro e w' ⟨rfl, hq⟩
    exact ⟨by simp, quiet_drewN hq⟩
end Go.Proofs.YtjfpaahidfhkoaaGreatDoor
