/- Outlines: slices.Equal at lines; the law TreeOutlineReads. -/
import Derived.Test.YticdapkljbillaaDoorOlF
import Derived.Shelf.SlicesQ.Equal
import Derived.WalkKit
import Derived.Lib.Hide
import Derived.Outline
import Derived.WalkMore
import Derived.Below
import Derived.Deep.QuietTactic
import Derived.BigQuiet
namespace Go.Proofs.YticdapkljbillaaDoor
open Go.RowKit Go.Shelf

/-- It returns v, and what was there is as it was. -/
def Quiet (w : World) (v : Value) (e : Ending) (w' : World) : Prop := e = .returned v ∧ Below w.heap.size w w'
def lnEq (x y : Ln) : Bool := if (x.depth : Int) = y.depth then if x.text.toList = y.text.toList then true else false else false
theorem lnEq_self (x : Ln) : lnEq x x = true := by
  unfold lnEq
  simp
theorem lnAllEq_self : ∀ l : List Ln, Lib.allEq lnEq l l = true
  | [] => rfl
  | x :: l => by
    unfold Lib.allEq
    rw [lnEq_self, lnAllEq_self l]
    rfl
theorem lnNeq : NeqAt Tryd.prog 28 (fun x : Ln => .agg x.cells.toArray) lnEq := by
  refine ⟨fun x y w => ?_, GuardAt.agg _ (by kernel_rfl)⟩
  show (binOp .neq 28 (.agg #[.int .i64 x.depth, .string x.text]) (.agg #[.int .i64 y.depth, .string y.text])).run Tryd.prog w = _
  go_simp
  unfold lnEq
  repeat' split
  all_goals rfl
def lnRen : Go.Shelf.Ren := ⟨fun | 8 => 7 | n => n, fun | 22 => 22 | 24 => 28 | 3 => 3 | 4 => 4 | n => n, fun | n => n⟩
theorem lnLays : SlLaysQ.n8 Tryd.prog lnRen := {
  mixed := by kernel_rfl
  f8 := ⟨"slices.Equal[[]florilegium/tree.Line,florilegium/tree.Line]", by decide, Tryd.func7.trans (congrArg some (by kernel_rfl))⟩
  t0 := Tryd.underlying0
  a0 := Tryd.isAgg0
  z0 := Tryd.sizeOf0
  v0 := Tryd.zeroValue0
  t3 := Tryd.underlying3
  a3 := Tryd.isAgg3
  z3 := Tryd.sizeOf3
  v3 := Tryd.zeroValue3
  t4 := Tryd.underlying4
  a4 := Tryd.isAgg4
  z4 := Tryd.sizeOf4
  v4 := Tryd.zeroValue4
  t22 := Tryd.underlying22
  a22 := Tryd.isAgg22
  z22 := Tryd.sizeOf22
  v22 := Tryd.zeroValue22 }
theorem quiet_drewN {w w' : World} (h : ∃ q, w' = w.drewN q) : Below w.heap.size w w' := by
  obtain ⟨q, rfl⟩ := h
  exact ⟨rfl, rfl, rfl, Nat.le_refl _, fun _ _ => rfl⟩

theorem lnNil_any (a b : Option Addr) (c d : Nat) (w : World) : Calls Tryd.prog 7 #[.slice a 0 c, .slice b 0 d] w (Quiet w (.bool true)) := by
  go_enter Tryd.func7, Tryd.ntmps7
  go_wp2
  go_loop [13] (fun i => i = .int .i64 0) (fun _ => 0)
  case atStart => rfl
  case round =>
    subst hrel
    go_wp2
    go_ret
    exact ⟨rfl, Below.refl _ _⟩
theorem lnsEqual_any {b1 b2 : Nat} (v1 v2 : Value) (l : List Ln) (w : World) (hl : l.length ≤ 4000000000) (h1 : w.ownsRow b1 28 2 v1 l.length (l.flatMap Ln.cells)) (h2 : w.ownsRow b2 28 2 v2 l.length (l.flatMap Ln.cells)) :
    Calls Tryd.prog 7 #[v1, v2] w (Quiet w (.bool true)) := by
  obtain ⟨a1, c1, rfl, g1⟩ := own_slice h1
  obtain ⟨a2, c2, rfl, g2⟩ := own_slice h2
  by_cases h0 : l.length = 0
  · rw [h0]
    exact lnNil_any _ _ _ _ w
  · obtain ⟨n1, rfl, _, _⟩ := g1 (by omega)
    obtain ⟨n2, rfl, _, _⟩ := g2 (by omega)
    have hat : ∀ (b n : Nat) (cc : Nat), w.ownsRow b 28 2 (.slice (some ⟨n, 0, none⟩) l.length cc) l.length (l.flatMap Ln.cells) → ∀ j, j < l.length → ∀ i v, (l[j]!.cells)[i]? = some v → w.cell? ⟨n, 0 + j * 2 + i, none⟩ = some v := by
      intro b n cc h j hj i v hv
      have hi : i < 2 := by
        have := (List.getElem?_eq_some_iff.1 hv).1
        rwa [Ln.cells_len] at this
      have e1 := h.cellAt (j * 2 + i) (by omega)
      have e2 := ln_flat l j hj i hi
      rw [getElem!_pos l j hj] at hv
      rw [Nat.zero_add]
      exact (e1.trans e2).trans hv
    refine (AnyQ.slices_Equal lnLays 2 Tryd.isAgg28 Tryd.sizeOf28 Ln.cells Ln.cells_len lnEq lnNeq n1 0 l.length c1 n2 0 l.length c2 l l w (Nat.le_refl _) (Nat.le_refl _) (by omega) (by omega) (hat _ _ _ h1) (hat _ _ _ h2)).mono ?_
    rintro e w' ⟨rfl, hq⟩
    rw [List.take_length, lnAllEq_self]
    exact ⟨rfl, quiet_drewN hq⟩

set_option maxRecDepth 100000 in
set_option maxHeartbeats 4000000 in
theorem treeOutlineReads_any (s : ByteArray) (w : World) (hs : s.size ≤ 9223372036854775807) : Calls Tryd.prog 3 #[.string s] w (Quiet w (.bool true)) := by
  obtain ⟨C, hC⟩ : ∃ C, C = outCode s := ⟨_, rfl⟩
  have hol := out_len s
  have q : (C == C) = true := by simp
  have HC := Lib.hid hC
  clear hC
  go_enter Tryd.func3, Tryd.ntmps3
  go_wp2_with fail
  refine (readOutline_any s _ hs).mono ?_
  rintro e1 w1 ⟨v1, rfl, hown1, hb1⟩
  rw [← HC.out]
  obtain ⟨A1, c1, rfl, -⟩ := own_slice hown1
  have HO1 := Lib.hid hown1
  have HB1 := Lib.hid hb1
  clear hown1 hb1
  go_wp2_with fail
  refine (outlineRead_any s _ hs).mono ?_
  rintro e2 w2 ⟨v2, rfl, hown2, hb2⟩
  rw [← HC.out]
  obtain ⟨A2, c2, rfl, -⟩ := own_slice hown2
  have HO1' := Lib.hid (own_keepB HO1.out hb2 (Nat.le_refl _))
  have HO2 := Lib.hid hown2
  have HB2 := Lib.hid hb2
  clear hown2 hb2
  have HEQ := Lib.hid (lnsEqual_any _ _ (outLns s) w2 (by omega) HO1'.out HO2.out)
  go_wp2_with fail
  refine HEQ.out.mono ?_
  rintro e3 w3 ⟨rfl, hb3⟩
  have HB3 := Lib.hid hb3
  clear hb3
  go_wp2_with fail
  go_ret
  exact ⟨rfl, (HB1.out.trans (HB2.out.mono HB1.out.size)).trans (HB3.out.mono (Nat.le_trans HB1.out.size HB2.out.size))⟩
end Go.Proofs.YticdapkljbillaaDoor
