/- TextBack, part 3: an edit that may be, whose inverse is refused. -/
import Derived.Test.YtjfpaahidfhkoaaDoorTxP
import Derived.WalkKit
import Derived.Lib.Hide
import Derived.Outline
import Derived.Deep.QuietTactic
import Derived.BigQuiet
import Derived.Deep.RegionHeld3
import Derived.Laws.EntriesVeiled
namespace Go.Proofs.YtjfpaahidfhkoaaDoor
open Go.RowKit
open Ke (editErr edited ctl isCtl dF dN comm applyAll composed GivesDiff GivesEdit EditsAt)
open Km (shM)

theorem two_edits (W : World) (f t f2 t2 : Int) (x y : ByteArray) (hx : x.size ≤ 140737488351232) (hy : y.size ≤ 140737488351232) :
    EditsAt (W.alloc (.cells #[.int .i64 f, .int .i64 t, .string x, .int .i64 f2, .int .i64 t2, .string y] 46)) (W.alloc (.cells #[.int .i64 f, .int .i64 t, .string x, .int .i64 f2, .int .i64 t2, .string y] 46)).heap.size (some ⟨W.heap.size, 0, none⟩) [(f, t, x), (f2, t2, y)] := by
  have hb := heap_alloc_new W (.cells #[.int .i64 f, .int .i64 t, .string x, .int .i64 f2, .int .i64 t2, .string y] 46)
  intro k a b z hk
  rcases k with _ | _ | k
  · simp only [List.getElem?_cons_zero, Option.some.injEq, Prod.mk.injEq] at hk
    obtain ⟨rfl, rfl, rfl⟩ := hk
    exact ⟨_, 0, rfl, by simp, cell_of_row _ _ 0 _ _ (0, 0) hb, cell_of_row _ _ 1 _ _ (0, 0) hb, cell_of_row _ _ 2 _ _ (0, 0) hb, hx⟩
  · simp only [List.getElem?_cons_succ, List.getElem?_cons_zero, Option.some.injEq, Prod.mk.injEq, Nat.zero_add] at hk
    obtain ⟨rfl, rfl, rfl⟩ := hk
    exact ⟨_, 0, rfl, by simp, cell_of_row _ _ 3 _ _ (0, 0) hb, cell_of_row _ _ 4 _ _ (0, 0) hb, cell_of_row _ _ 5 _ _ (0, 0) hb, hy⟩
  · simp at hk
/-- Compose of two edits that lie in a row of their own. -/
theorem compose_two (W : World) (s : ByteArray) (f t f2 t2 p q m : Int) (x y z : ByteArray) (hs : s.size ≤ 140737488351232) (hx : x.size ≤ 140737488351232) (hy : y.size ≤ 140737488351232) (hc : composed s [(f, t, x), (f2, t2, y)] = (p, q, z, m)) :
    Calls Tryd.prog 19 #[.string s, .slice (some ⟨W.heap.size, 0, none⟩) 2 2] (W.alloc (.cells #[.int .i64 f, .int .i64 t, .string x, .int .i64 f2, .int .i64 t2, .string y] 46))
      (GivesEdit (W.alloc (.cells #[.int .i64 f, .int .i64 t, .string x, .int .i64 f2, .int .i64 t2, .string y] 46)) p q z m) := by
  have h := Ke.compose_any s (some ⟨W.heap.size, 0, none⟩) 2 [(f, t, x), (f2, t2, y)] _ hs (two_edits W f t f2 t2 x y hx hy) (by simp)
  rw [hc] at h
  exact h
theorem refused_is (s x : ByteArray) (f t : Nat) (h : editErr s.size f t x = 0) (hr : editErr (edited s f t x).size f ((f + x.size : Nat) : Int) (s.extract f t) ≠ 0) :
    (editErr (edited s f t x).size f ((f + x.size : Nat) : Int) (s.extract f t) = 9 ∨ editErr (edited s f t x).size f ((f + x.size : Nat) : Int) (s.extract f t) = 4) ∧ chkErr s ≠ 0 := by
  rw [back_err s x f t h] at hr ⊢
  by_cases hc : ctl (s.extract f t) = true
  · rw [if_pos hc]
    refine ⟨.inl rfl, ?_⟩
    unfold chkErr
    rw [if_pos (ctl_part hc)]
    split <;> decide
  · rw [if_neg hc] at hr ⊢
    by_cases hl : 2000 < s.size
    · rw [if_pos hl]
      refine ⟨.inr rfl, ?_⟩
      unfold chkErr
      rw [if_pos hl]
      decide
    · rw [if_neg hl] at hr
      exact absurd rfl hr

theorem blk_kept {w w' : World} {B : Nat} {o : Obj} (h : w.heap[B]? = some o) (hb : Below w.heap.size w w') : w'.heap[B]? = some o := (hb.block B (lt_of_blk h)).trans h

set_option maxRecDepth 100000 in
set_option maxHeartbeats 4000000 in
theorem back_refused (s x b : ByteArray) (f t : Nat) (w : World) (hs : s.size ≤ 140737488351232) (hx : x.size ≤ 140737488351232) (hb : b.size ≤ 140737488351232) (h : editErr s.size f t x = 0)
    (hr : editErr (edited s f t x).size f ((f + x.size : Nat) : Int) (s.extract f t) ≠ 0) :
    Calls Tryd.prog 5 #[.string s, .agg #[.int .i64 f, .int .i64 t, .string x], .string b] w (Quiet w (.bool true)) := by
  obtain ⟨g1, g2, g3, g4, g5⟩ := Ke.editErr_zero h
  have f1 : f ≤ t := by omega
  have f2 : t ≤ s.size := by omega
  obtain ⟨hn9, hk0⟩ := refused_is s x f t h hr
  obtain ⟨y, hy⟩ : ∃ y, y = s.extract f t := ⟨_, rfl⟩
  have hys : y.size ≤ 140737488351232 := by rw [hy, ByteArray.size_extract]; omega
  obtain ⟨u, hu⟩ : ∃ u, u = edited s f t x := ⟨_, rfl⟩
  have hus : u.size ≤ 140737488351232 := by
    have := Ke.edited_small h
    simp only [Int.toNat_natCast] at this
    rw [← hu] at this
    omega
  have hcast : ((f + x.size : Nat) : Int) = (f : Int) + x.size := by omega
  rw [← hy, ← hu, hcast] at hr hn9
  obtain ⟨c, hcc⟩ : ∃ c, c = chkErr s := ⟨_, rfl⟩
  have hcb : (c == 0) = false := by rw [hcc]; simpa using hk0
  have HCC := Lib.hid hcc
  obtain ⟨cp, cq, cz, cm, hcomp⟩ : ∃ p q z m, composed s [((f : Int), (t : Int), x), ((f : Int), (f : Int) + x.size, y)] = (p, q, z, m) := ⟨_, _, _, _, rfl⟩
  have HCO := Lib.hid hcomp
  obtain ⟨n, hn⟩ : ∃ n, n = editErr u.size f ((f : Int) + x.size) y := ⟨_, rfl⟩
  rw [← hn] at hn9
  have HR := Lib.hid hr
  have HH := Lib.hid h
  have HN := Lib.hid hn
  have HY := Lib.hid hy
  have HU := Lib.hid hu
  clear hr h hn hy hu g4 g5 hcc hk0 hcomp
  rcases hn9 with rfl | rfl
  all_goals (
    go_enter Tryd.func5, Tryd.ntmps5
    go_wp2_with fail
    refine (awakeText_any _).mono ?_
    rintro e1 w1 ⟨rfl, hb1⟩
    have k1 : w1.heap[w.heap.size]? = some (.cells #[.int .i64 f, .int .i64 t, .string x] 46 (0, 0)) := (hb1.block _ (by simp)).trans (heap_alloc_new w _)
    have B1 := Lib.hid (((Below.refl _ _).alloc (Nat.le_refl _) (.cells #[.int .i64 f, .int .i64 t, .string x] 46)).trans (hb1.mono (by simp)))
    have K1 := Lib.hid k1
    obtain ⟨c1, _⟩ := Ke.blk_cells k1
    clear hb1 k1
    go_wp2_with fail
    refine (Ke.apply_good s f t x w1 hs hx HH f1 f2).mono ?_
    rw [← HU.out]
    rintro e2 w2 ⟨rfl, hb2⟩
    have B2 := Lib.hid (B1.out.trans (hb2.mono B1.out.size))
    have K2 := Lib.hid (blk_kept K1.out hb2)
    obtain ⟨c2, _⟩ := Ke.blk_cells K2.out
    clear hb2
    go_wp2_with fail
    refine (Ke.inverse_good s f t x w2 hs hx HH f1 f2).mono ?_
    rw [← HY.out]
    rintro e3 w3 ⟨rfl, hb3⟩
    have B3 := Lib.hid (B2.out.trans (hb3.mono B2.out.size))
    have K3 := Lib.hid (blk_kept K2.out hb3)
    obtain ⟨c3, _⟩ := Ke.blk_cells K3.out
    clear hb3
    go_wp2_with fail
    refine (Ke.apply_bad u f ((f : Int) + x.size) y _ hus hys HR).mono ?_
    rw [← HN.out]
    rintro e4 w4 ⟨rfl, hb4⟩
    have k4 : w4.heap[w3.heap.size]? = some (.cells #[.int .i64 f, .int .i64 ((f : Int) + x.size), .string y] 46 (0, 0)) := (hb4.block _ (by simp)).trans (heap_alloc_new w3 _)
    have hb34 : Below w3.heap.size w3 w4 := ((Below.refl _ _).alloc (Nat.le_refl _) _).trans (hb4.mono (by simp))
    have B4 := Lib.hid (B3.out.trans (hb34.mono B3.out.size))
    have K4 := Lib.hid (blk_kept K3.out hb34)
    have J4 := Lib.hid k4
    obtain ⟨c4, _⟩ := Ke.blk_cells K4.out
    obtain ⟨j4, _⟩ := Ke.blk_cells k4
    have ne4 : w3.heap.size ≠ w.heap.size := by have := lt_of_blk K3.out; omega
    clear hb4 hb34 k4
    go_wp2_with fail
    refine (compose_two w4 s f t f ((f : Int) + x.size) cp cq cm x y cz hs hx hys HCO.out).mono ?_
    rintro e5 w5 ⟨rfl, hb5⟩
    have B5 := Lib.hid ((B4.out.alloc B4.out.size _).trans (hb5.mono (Nat.le_trans B4.out.size (by simp))))
    clear hb5
    go_wp2_with fail
    refine (check_any s _ (by omega)).mono ?_
    rintro e6 w6 ⟨rfl, rfl⟩
    rw [← HCC.out]
    go_wp2
    go_ret
    exact ⟨ret_bool (by simp [bne, hcb]), B5.out.alloc B5.out.size _⟩
    )
end Go.Proofs.YtjfpaahidfhkoaaDoor
