/- TextBack, part 5: an edit that may be, and its inverse. -/
import Derived.Test.YtjfpaahidfhkoaaDoorTxR
import Derived.WalkKit
import Derived.Lib.Hide
import Derived.Outline
import Derived.Deep.QuietTactic
import Derived.BigQuiet
import Derived.Deep.RegionHeld3
import Derived.Laws.EntriesVeiled
namespace Go.Proofs.YtjfpaahidfhkoaaDoor
open Go.RowKit
open Ke (editErr edited ctl isCtl dF dN comm applyAll composed GivesDiff GivesEdit EditsAt GivesStr)
open Km (shM IntsAt)

set_option maxRecDepth 100000 in
set_option maxHeartbeats 8000000 in
theorem back_ok (s x b : ByteArray) (f t : Nat) (w : World) (hs : s.size ≤ 140737488351232) (hx : x.size ≤ 140737488351232) (hb : b.size ≤ 140737488351232) (h : editErr s.size f t x = 0)
    (hr : editErr (edited s f t x).size f ((f + x.size : Nat) : Int) (s.extract f t) = 0) :
    Calls Tryd.prog 5 #[.string s, .agg #[.int .i64 f, .int .i64 t, .string x], .string b] w (Quiet w (.bool true)) := by
  obtain ⟨g1, g2, g3, g4, g5⟩ := Ke.editErr_zero h
  have f1 : f ≤ t := by omega
  have f2 : t ≤ s.size := by omega
  have hcast : ((f + x.size : Nat) : Int) = (f : Int) + x.size := by omega
  have hcomp := composed_back s x f t h hr
  have hsz := Ke.edited_size (s := s) (x := x) f1 f2
  have hbs := back_string s x f t f1 f2
  obtain ⟨r1, r2, r3, r4, r5⟩ := Ke.editErr_zero hr
  have hxs : (s.extract f t).size = t - f := by rw [ByteArray.size_extract]; omega
  rw [hsz, hxs] at r5
  have s2 : s.size ≤ 2000 := by omega
  obtain ⟨y, hy⟩ : ∃ y, y = s.extract f t := ⟨_, rfl⟩
  have hys : y.size ≤ 140737488351232 := by rw [hy, ByteArray.size_extract]; omega
  obtain ⟨u, hu⟩ : ∃ u, u = edited s f t x := ⟨_, rfl⟩
  rw [← hu] at hsz
  have hus : u.size ≤ 140737488351232 := by omega
  have f3 : f + x.size ≤ u.size := by omega
  rw [← hy, ← hu] at hbs
  rw [← hy, hcast] at hcomp
  rw [← hy, ← hu, hcast] at hr
  have HBS := Lib.hid hbs
  have HCO := Lib.hid hcomp
  have HR := Lib.hid hr
  have HH := Lib.hid h
  have HY := Lib.hid hy
  have HU := Lib.hid hu
  have HSZ := Lib.hid hsz
  clear hr h hy hu g4 g5 hcomp hbs r1 r2 r3 r4 r5 hxs hsz
  go_enter Tryd.func5, Tryd.ntmps5
  go_wp2_with fail
  refine (awakeText_any _).mono ?_
  rintro e1 w1 ⟨rfl, hb1⟩
  have k1 : w1.heap[w.heap.size]? = some (.cells #[.int .i64 f, .int .i64 t, .string x] 46 (0, 0)) := (hb1.block _ (by simp)).trans (heap_alloc_new w _)
  have B1 := Lib.hid (((Below.refl _ _).alloc (Nat.le_refl _) (.cells #[.int .i64 f, .int .i64 t, .string x] 46)).trans (hb1.mono (by simp)))
  have K1 := Lib.hid k1
  obtain ⟨c1, _⟩ := Ke.blk_cells k1
  clear hb1 k1
  go_wp2_with fail
  refine (Ke.apply_good s f t x w1 hs hx HH f1 f2).mono ?_
  rw [← HU.out]
  rintro e2 w2 ⟨rfl, hb2⟩
  have B2 := Lib.hid (B1.out.trans (hb2.mono B1.out.size))
  have K2 := Lib.hid (blk_kept K1.out hb2)
  obtain ⟨c2, _⟩ := Ke.blk_cells K2.out
  clear hb2
  go_wp2_with fail
  refine (Ke.inverse_good s f t x w2 hs hx HH f1 f2).mono ?_
  rw [← HY.out]
  rintro e3 w3 ⟨rfl, hb3⟩
  have B3 := Lib.hid (B2.out.trans (hb3.mono B2.out.size))
  have K3 := Lib.hid (blk_kept K2.out hb3)
  obtain ⟨c3, _⟩ := Ke.blk_cells K3.out
  clear hb3
  go_wp2_with fail
  refine (apply_is u y s f (f + x.size) _ _ hus hys hcast HR (by omega) f3 HBS).mono ?_
  rintro e4 w4 ⟨rfl, hb4⟩
  have k4 : w4.heap[w3.heap.size]? = some (.cells #[.int .i64 f, .int .i64 ((f : Int) + x.size), .string y] 46 (0, 0)) := (hb4.block _ (by simp)).trans (heap_alloc_new w3 _)
  have hb34 : Below w3.heap.size w3 w4 := ((Below.refl _ _).alloc (Nat.le_refl _) _).trans (hb4.mono (by simp))
  have B4 := Lib.hid (B3.out.trans (hb34.mono B3.out.size))
  have K4 := Lib.hid (blk_kept K3.out hb34)
  have J4 := Lib.hid k4
  obtain ⟨c4, _⟩ := Ke.blk_cells K4.out
  obtain ⟨j4, _⟩ := Ke.blk_cells k4
  have ne4 : w3.heap.size ≠ w.heap.size := by have := lt_of_blk K3.out; omega
  clear hb4 hb34 k4
  go_wp2_with fail
  refine (compose_two w4 s f t f ((f : Int) + x.size) _ _ _ x y _ hs hx hys HCO.out).mono ?_
  rintro e5 w5 ⟨rfl, hb5⟩
  have hb45 : Below w4.heap.size w4 w5 := ((Below.refl _ _).alloc (Nat.le_refl _) _).trans (hb5.mono (by simp))
  have B5 := Lib.hid (B4.out.trans (hb45.mono B4.out.size))
  have K5 := Lib.hid (blk_kept K4.out hb45)
  have K5a := Lib.hid (blk_kept K5.out ((Below.refl _ _).alloc (Nat.le_refl _) (.cells #[.int .i64 s.size, .int .i64 s.size, .string ⟨#[]⟩] 46)))
  obtain ⟨c5, _⟩ := Ke.blk_cells K5a.out
  obtain ⟨c6, _⟩ := Ke.blk_cells K5.out
  have l5 : w.heap.size < w5.heap.size := lt_of_blk K5.out
  clear hb5 hb45
  go_wp2_with fail
  refine (shift_four_at (w5.alloc (.cells #[.int .i64 s.size, .int .i64 s.size, .string ⟨#[]⟩] 46)) (w5.heap.size + 1) (by simp) f t s.size u.size x hx f1 f2 s2 HSZ.out.symm).mono ?_
  rintro e6 w6 ⟨g, cap, m0, m1, m2, m3, rfl, hc6, ⟨a0, b0⟩, ⟨a1, b1⟩, ⟨a2, b2⟩, ⟨a3, b3⟩, hb6⟩
  have B6 := Lib.hid (((B5.out.alloc B5.out.size _).alloc (Nat.le_trans B5.out.size (by simp)) _).trans (hb6.mono (Nat.le_trans B5.out.size (by simp; omega))))
  obtain ⟨n0, n1, n2, n3⟩ := hc6
  clear hb6
  have s3 : (s.size : Int) ≤ 2000 := by omega
  go_wp2_with fail
  go_loopw [94] (fun i wr => ∃ k n : Nat, k ≤ 4 ∧ i = .int .i64 k ∧ wr = w6.drewN n) (fun i _ => 4 - (intOf i).toNat)
  case atStart => exact ⟨0, 0, by omega, rfl, rfl⟩
  case round =>
    obtain ⟨k, n, hk, rfl, rfl⟩ := hrel
    have hk5 : k = 0 ∨ k = 1 ∨ k = 2 ∨ k = 3 ∨ k = 4 := by omega
    clear hk
    rcases hk5 with rfl | rfl | rfl | rfl | rfl
    · have ma := a0
      have mb := b0
      have mc := n0
      have d0 : decide (m0 < 0) = false := decide_eq_false (by omega)
      have d1 : decide ((u.size : Int) < m0) = false := decide_eq_false (by omega)
      have d2 : decide ((s.size : Int) ≤ 2000) = true := decide_eq_true s3
      have d3 : ¬ m0 < 0 := by omega
      have d4 : ¬ (u.size : Int) < m0 := by omega
      go_wp2
      go_roundw
      case rel => exact ⟨0 + 1, n, by omega, by go_num, rfl⟩
      case measure => simp [intOf]
    · have ma := a1
      have mb := b1
      have mc := n1
      have d0 : decide (m1 < 0) = false := decide_eq_false (by omega)
      have d1 : decide ((u.size : Int) < m1) = false := decide_eq_false (by omega)
      have d2 : decide ((s.size : Int) ≤ 2000) = true := decide_eq_true s3
      have d3 : ¬ m1 < 0 := by omega
      have d4 : ¬ (u.size : Int) < m1 := by omega
      go_wp2
      go_roundw
      case rel => exact ⟨1 + 1, n, by omega, by go_num, rfl⟩
      case measure => simp [intOf]
    · have ma := a2
      have mb := b2
      have mc := n2
      have d0 : decide (m2 < 0) = false := decide_eq_false (by omega)
      have d1 : decide ((u.size : Int) < m2) = false := decide_eq_false (by omega)
      have d2 : decide ((s.size : Int) ≤ 2000) = true := decide_eq_true s3
      have d3 : ¬ m2 < 0 := by omega
      have d4 : ¬ (u.size : Int) < m2 := by omega
      go_wp2
      go_roundw
      case rel => exact ⟨2 + 1, n, by omega, by go_num, rfl⟩
      case measure => simp [intOf]
    · have ma := a3
      have mb := b3
      have mc := n3
      have d0 : decide (m3 < 0) = false := decide_eq_false (by omega)
      have d1 : decide ((u.size : Int) < m3) = false := decide_eq_false (by omega)
      have d2 : decide ((s.size : Int) ≤ 2000) = true := decide_eq_true s3
      have d3 : ¬ m3 < 0 := by omega
      have d4 : ¬ (u.size : Int) < m3 := by omega
      go_wp2
      go_roundw
      case rel => exact ⟨3 + 1, n, by omega, by go_num, rfl⟩
      case measure => simp [intOf]
    · go_wp2_with fail
      refine (diff_tells s b _ hs hb).mono ?_
      rintro e7 w7 ⟨P, Q, D, rfl, hb7, q1, q2, q4, q3⟩
      have B7 := Lib.hid ((below_drewN' B6.out n).trans (hb7.mono B6.out.size))
      have p0 : decide ((P : Int) < 0) = false := decide_eq_false (by omega)
      have p1 : decide ((Q : Int) < P) = false := decide_eq_false (by omega)
      have p2 : decide ((s.size : Int) < Q) = false := decide_eq_false (by omega)
      have q5 : P ≤ s.size := by omega
      have z1 : ¬ 9223372036854775807 < P + D.size := by omega
      have z2 : ¬ 9223372036854775807 < P + D.size + (s.size - Q) := by omega
      have p3 : (P : Int) ≤ s.size := by omega
      have p4 : (Q : Int) ≤ s.size := by omega
      clear hb7 a0 a1 a2 a3 b0 b1 b2 b3 n0 n1 n2 n3
      go_wp2_with fail
      go_quiet (fail)
      go_wp2
      go_ret
      exact ⟨rfl, below_drewN' (B7.out.alloc B7.out.size _) _⟩
end Go.Proofs.YtjfpaahidfhkoaaDoor
