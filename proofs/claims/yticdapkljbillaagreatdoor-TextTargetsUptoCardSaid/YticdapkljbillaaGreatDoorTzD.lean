/- The reference's token where two opening brackets stand. -/
import Derived.Test.YticdapkljbillaaGreatDoorTzC
import Derived.WalkKit
import Derived.Lib.Hide
import Derived.Outline
import Derived.Deep.DeepCutAuto
import Derived.Deep.CutBlock
import Derived.Deep.QuietTactic
import Derived.BigQuiet
import Derived.Laws.DeepStrings4
namespace Go.Proofs.YticdapkljbillaaGreatDoor
open Go.RowKit

theorem cut_vars (t : ByteArray) (ht : t.size ≤ 4000000000) : ∃ L R H, L = cutL t ∧ R = cutR t ∧ H = decide (0 ≤ bar t) ∧
    ∀ w, Calls Tryz.prog 44 #[.string t, .string ⟨#[124]⟩] w fun e w' => e = .returned (.tuple #[.string L, .string R, .bool H]) ∧ Below w.heap.size w w' :=
  ⟨_, _, _, rfl, rfl, rfl, fun w => cut_any t w ht⟩
theorem tgt_vars (L : ByteArray) (hL : L.size ≤ 4000000000) : ∃ T, T = isTgt L ∧
    ∀ w, Calls Tryz.prog 5 #[.string L] w fun e w' => e = .returned (.bool T) ∧ Below w.heap.size w w' :=
  ⟨_, rfl, fun w => refIsTarget_any L w hL⟩
theorem any_vars (t : ByteArray) (ht : t.size ≤ 4000000000) : ∃ i, i = anyOf t brk ∧
    ∀ w, Calls Tryz.prog 29 #[.string t, .string ⟨#[91, 93]⟩] w fun e w' => e = .returned (.int .i64 i) ∧ Below w.heap.size w w' :=
  ⟨_, rfl, fun w => indexAny_any t brk w ht (by decide) (by decide) brk_ascii⟩
theorem has_vars (t m : ByteArray) : ∃ b, b = Lib.hasPrefix t.data.toList m.data.toList ∧
    ∀ w, Calls Tryz.prog 48 #[.string t, .string m] w fun e w' => e = .returned (.bool b) ∧ w' = w :=
  ⟨_, rfl, fun w => Tryz.strings_HasPrefix t m w⟩
/-- Two blocks of seven cells, still there behind a call. -/
theorem two_kept {w w1 w2 : World} {A B : Obj} (h : w1.heap[w.heap.size]? = some A ∧ w1.heap[w.heap.size + 1]? = some B ∧ Below w.heap.size w w1 ∧ w.heap.size + 1 < w1.heap.size) (hb : Below w1.heap.size w1 w2) :
    w2.heap[w.heap.size]? = some A ∧ w2.heap[w.heap.size + 1]? = some B ∧ Below w.heap.size w w2 ∧ w.heap.size + 1 < w2.heap.size := by
  obtain ⟨h1, h2, h3, h4⟩ := h
  exact ⟨(hb.block _ (by omega)).trans h1, (hb.block _ (by omega)).trans h2, h3.trans (hb.mono (by omega)), Nat.lt_of_lt_of_le h4 hb.size⟩
set_option maxRecDepth 100000 in
set_option maxHeartbeats 4000000 in
theorem token_link_none (s : ByteArray) (a : Nat) (w : World) (hs : s.size ≤ 4000000000) (ha : a < s.size) (k1 : pre s a ⟨#[91, 91]⟩ = true) (hk : anyOf (s.extract (a + 2) s.size) brk < 0) :
    Calls Tryz.prog 35 #[.string s, .int .i64 a] w (Quiet w (oneSp s a).val) := by
  obtain ⟨V, hV⟩ : ∃ V, V = (oneSp s a).val := ⟨_, rfl⟩
  rw [← hV]
  have HV0 := Lib.hid hV
  clear hV
  have hp := pre_two (s := s) (n := a) (c := 91) (d := 91)
  rw [show ((91 : UInt8).toNat : Int) = 91 from rfl] at hp
  have hz : a + 2 ≤ s.size := pre_le k1 (Nat.le_of_lt ha)
  have h0 : (s[a].toNat : Int) = 91 := by rw [← bAt_lt ha]; exact (hp.1 k1).1
  have p1 : (a : Int) < s.size := by omega
  have p2 : (a : Int) + 1 ≤ s.size := by omega
  go_enter Tryz.func35, Tryz.ntmps35
  go_upto_region 3 with (fail)
  have hR := rest_mk (Nat.le_of_lt ha)
  generalize s.extract a s.size = r at hR ⊢
  have r1 : 0 < r.size := by have := hR.size; omega
  have r2 : (0 : Int) < r.size := by omega
  have r3 : (r.size : Int) ≤ 4000000000 := by have := hR.size; omega
  obtain ⟨g1, g2⟩ := hR.at r1
  simp only [Nat.add_zero] at g2
  have HR := Lib.hid hR
  have e0 : ((r[0].toNat : Int) == 92) = false := by rw [g2, h0]; rfl
  have e1 : ((r[0].toNat : Int) == 96) = false := by rw [g2, h0]; rfl
  have P1 := Lib.hid ((hR.pre ⟨#[91, 91]⟩).trans k1)
  have r4 : 2 ≤ r.size := by have := hR.size; omega
  have r5 : (2 : Int) ≤ r.size := by omega
  have hq : r.extract 2 r.size = s.extract (a + 2) s.size := by rw [hR.cut (Nat.le_refl _) r4]; congr 1; have := hR.size; omega
  obtain ⟨i, hi, hany⟩ := any_vars (r.extract 2 r.size) (by rw [ByteArray.size_extract]; omega)
  rw [hq] at hi
  have HANY := Lib.hid hany
  clear hany
  have q1 : i < 0 := by rw [hi]; exact hk
  have HV : Hid (V = .agg #[.int .i64 1, .int .i64 a, .int .i64 ((a : Int) + 1), .string (s.extract a (a + 1)), .string ⟨#[]⟩, .int .i64 0, .bool false]) := Lib.hid (by rw [HV0.out]; rfl)
  clear hR g1 g2 h0 hp hi hq hk k1 HV0
  go_wp2_with fail
  refine (Tryz.strings_HasPrefix _ _ _).mono ?_
  rintro e w' ⟨rfl, rfl⟩
  rw [P1.out]
  go_wp2_with fail
  refine (HANY.out _).mono ?_
  rintro e w1 ⟨rfl, hb1⟩
  have K1 := Lib.hid (two_new hb1)
  clear hb1
  obtain ⟨hA, hB, hbw, hsz⟩ := K1.out
  obtain ⟨⟨a0, a1, a2, a3, a4, a5, a6⟩, f0, f1, f2, f3, f4, f5, f6⟩ := blk7 hA
  obtain ⟨⟨c0, c1, c2, c3, c4, c5, c6⟩, x0, x1, x2, x3, x4, x5, x6⟩ := blk7 hB
  go_wp2_with fail
  refine bodyPost_ret (v := V) ?_ rfl ?_
  · simp [results, Tryz.results35, go_sem, a0, a1, a2, a3, a4, a5, a6]; exact HV.out.symm
  · refine ⟨rfl, ?_⟩
    repeat (with_reducible refine Below.setCell ?_ (by first | exact Nat.le_refl _ | exact Nat.le_succ _) _)
    exact hbw

set_option maxRecDepth 100000 in
set_option maxHeartbeats 4000000 in
theorem token_link_noend (s : ByteArray) (a : Nat) (w : World) (hs : s.size ≤ 4000000000) (ha : a < s.size) (k1 : pre s a ⟨#[91, 91]⟩ = true) (k : Nat) (hk : anyOf (s.extract (a + 2) s.size) brk = (k : Int)) (h1 : pre s (a + 2 + k) ⟨#[93, 93]⟩ = false) :
    Calls Tryz.prog 35 #[.string s, .int .i64 a] w (Quiet w (oneSp s a).val) := by
  obtain ⟨V, hV⟩ : ∃ V, V = (oneSp s a).val := ⟨_, rfl⟩
  rw [← hV]
  have HV0 := Lib.hid hV
  clear hV
  have hp := pre_two (s := s) (n := a) (c := 91) (d := 91)
  rw [show ((91 : UInt8).toNat : Int) = 91 from rfl] at hp
  have hz : a + 2 ≤ s.size := pre_le k1 (Nat.le_of_lt ha)
  have h0 : (s[a].toNat : Int) = 91 := by rw [← bAt_lt ha]; exact (hp.1 k1).1
  have p1 : (a : Int) < s.size := by omega
  have p2 : (a : Int) + 1 ≤ s.size := by omega
  go_enter Tryz.func35, Tryz.ntmps35
  go_upto_region 3 with (fail)
  have hR := rest_mk (Nat.le_of_lt ha)
  generalize s.extract a s.size = r at hR ⊢
  have r1 : 0 < r.size := by have := hR.size; omega
  have r2 : (0 : Int) < r.size := by omega
  have r3 : (r.size : Int) ≤ 4000000000 := by have := hR.size; omega
  obtain ⟨g1, g2⟩ := hR.at r1
  simp only [Nat.add_zero] at g2
  have HR := Lib.hid hR
  have e0 : ((r[0].toNat : Int) == 92) = false := by rw [g2, h0]; rfl
  have e1 : ((r[0].toNat : Int) == 96) = false := by rw [g2, h0]; rfl
  have P1 := Lib.hid ((hR.pre ⟨#[91, 91]⟩).trans k1)
  have r4 : 2 ≤ r.size := by have := hR.size; omega
  have r5 : (2 : Int) ≤ r.size := by omega
  have hq : r.extract 2 r.size = s.extract (a + 2) s.size := by rw [hR.cut (Nat.le_refl _) r4]; congr 1; have := hR.size; omega
  obtain ⟨i, hi, hany⟩ := any_vars (r.extract 2 r.size) (by rw [ByteArray.size_extract]; omega)
  rw [hq] at hi
  have HANY := Lib.hid hany
  clear hany
  rw [hk] at hi
  subst hi
  have hks := brk_some hz hk
  have q1 : (0 : Int) ≤ (k : Int) := by omega
  have q2 : (2 : Int) + k ≤ r.size := by have := hR.size; omega
  have q3 : 2 + k ≤ r.size := by omega
  have hq2 : r.extract (2 + k) r.size = s.extract (a + 2 + k) s.size := by rw [hR.cut (Nat.le_refl _) q3]; congr 1; omega; have := hR.size; omega
  obtain ⟨b, hb, hhas⟩ := has_vars (r.extract (2 + k) r.size) ⟨#[93, 93]⟩
  have hb2 : b = pre s (a + 2 + k) ⟨#[93, 93]⟩ := by rw [hb, hq2]; rfl
  have HHAS := Lib.hid hhas
  clear hhas hb hq hq2
  rw [h1] at hb2
  subst hb2
  have HV : Hid (V = .agg #[.int .i64 1, .int .i64 a, .int .i64 ((a : Int) + 1), .string (s.extract a (a + 1)), .string ⟨#[]⟩, .int .i64 0, .bool false]) := Lib.hid (by rw [HV0.out]; rfl)
  clear hR g1 g2 h0 hp hk k1 HV0 hks h1
  go_wp2_with fail
  refine (Tryz.strings_HasPrefix _ _ _).mono ?_
  rintro e w' ⟨rfl, rfl⟩
  rw [P1.out]
  go_wp2_with fail
  refine (HANY.out _).mono ?_
  rintro e w1 ⟨rfl, hb1⟩
  have K1 := Lib.hid (two_new hb1)
  clear hb1
  obtain ⟨hA, hB, hbw, hsz⟩ := K1.out
  obtain ⟨⟨a0, a1, a2, a3, a4, a5, a6⟩, f0, f1, f2, f3, f4, f5, f6⟩ := blk7 hA
  obtain ⟨⟨c0, c1, c2, c3, c4, c5, c6⟩, x0, x1, x2, x3, x4, x5, x6⟩ := blk7 hB
  go_wp2_with fail
  refine (HHAS.out _).mono ?_
  rintro e w' ⟨rfl, rfl⟩
  go_wp2_with fail
  refine bodyPost_ret (v := V) ?_ rfl ?_
  · simp [results, Tryz.results35, go_sem, a0, a1, a2, a3, a4, a5, a6]; exact HV.out.symm
  · refine ⟨rfl, ?_⟩
    repeat (with_reducible refine Below.setCell ?_ (by first | exact Nat.le_refl _ | exact Nat.le_succ _) _)
    exact hbw

set_option maxRecDepth 100000 in
set_option maxHeartbeats 4000000 in
theorem token_link_bad (s : ByteArray) (a : Nat) (w : World) (hs : s.size ≤ 4000000000) (ha : a < s.size) (k1 : pre s a ⟨#[91, 91]⟩ = true) (k : Nat) (hk : anyOf (s.extract (a + 2) s.size) brk = (k : Int)) (h1 : pre s (a + 2 + k) ⟨#[93, 93]⟩ = true) (h2 : isTgt (cutL (s.extract (a + 2) (a + 2 + k))) = false) :
    Calls Tryz.prog 35 #[.string s, .int .i64 a] w (Quiet w (oneSp s a).val) := by
  obtain ⟨V, hV⟩ : ∃ V, V = (oneSp s a).val := ⟨_, rfl⟩
  rw [← hV]
  have HV0 := Lib.hid hV
  clear hV
  have hp := pre_two (s := s) (n := a) (c := 91) (d := 91)
  rw [show ((91 : UInt8).toNat : Int) = 91 from rfl] at hp
  have hz : a + 2 ≤ s.size := pre_le k1 (Nat.le_of_lt ha)
  have h0 : (s[a].toNat : Int) = 91 := by rw [← bAt_lt ha]; exact (hp.1 k1).1
  have p1 : (a : Int) < s.size := by omega
  have p2 : (a : Int) + 1 ≤ s.size := by omega
  go_enter Tryz.func35, Tryz.ntmps35
  go_upto_region 3 with (fail)
  have hR := rest_mk (Nat.le_of_lt ha)
  generalize s.extract a s.size = r at hR ⊢
  have r1 : 0 < r.size := by have := hR.size; omega
  have r2 : (0 : Int) < r.size := by omega
  have r3 : (r.size : Int) ≤ 4000000000 := by have := hR.size; omega
  obtain ⟨g1, g2⟩ := hR.at r1
  simp only [Nat.add_zero] at g2
  have HR := Lib.hid hR
  have e0 : ((r[0].toNat : Int) == 92) = false := by rw [g2, h0]; rfl
  have e1 : ((r[0].toNat : Int) == 96) = false := by rw [g2, h0]; rfl
  have P1 := Lib.hid ((hR.pre ⟨#[91, 91]⟩).trans k1)
  have r4 : 2 ≤ r.size := by have := hR.size; omega
  have r5 : (2 : Int) ≤ r.size := by omega
  have hq : r.extract 2 r.size = s.extract (a + 2) s.size := by rw [hR.cut (Nat.le_refl _) r4]; congr 1; have := hR.size; omega
  obtain ⟨i, hi, hany⟩ := any_vars (r.extract 2 r.size) (by rw [ByteArray.size_extract]; omega)
  rw [hq] at hi
  have HANY := Lib.hid hany
  clear hany
  rw [hk] at hi
  subst hi
  have hks := brk_some hz hk
  have q1 : (0 : Int) ≤ (k : Int) := by omega
  have q2 : (2 : Int) + k ≤ r.size := by have := hR.size; omega
  have q3 : 2 + k ≤ r.size := by omega
  have hq2 : r.extract (2 + k) r.size = s.extract (a + 2 + k) s.size := by rw [hR.cut (Nat.le_refl _) q3]; congr 1; omega; have := hR.size; omega
  obtain ⟨b, hb, hhas⟩ := has_vars (r.extract (2 + k) r.size) ⟨#[93, 93]⟩
  have hb2 : b = pre s (a + 2 + k) ⟨#[93, 93]⟩ := by rw [hb, hq2]; rfl
  have HHAS := Lib.hid hhas
  clear hhas hb hq hq2
  rw [h1] at hb2
  subst hb2
  have ht : r.extract 2 (2 + k) = s.extract (a + 2) (a + 2 + k) := by rw [hR.cut q3 (by omega)]; congr 1; omega
  obtain ⟨L, R, H, hL, hRr, hH, hcut⟩ := cut_vars (r.extract 2 (2 + k)) (by rw [ByteArray.size_extract]; omega)
  rw [ht] at hL hRr hH
  have hLz : L.size ≤ 4000000000 := by rw [hL]; exact Nat.le_trans (cut_sizes _).1 (by rw [ByteArray.size_extract]; omega)
  obtain ⟨T, hT, htgt⟩ := tgt_vars L hLz
  have HCUT := Lib.hid hcut
  have HTGT := Lib.hid htgt
  clear hcut htgt ht
  rw [← hL] at h2
  rw [h2] at hT
  subst hT
  have HV : Hid (V = .agg #[.int .i64 1, .int .i64 a, .int .i64 ((a : Int) + 1), .string (s.extract a (a + 1)), .string ⟨#[]⟩, .int .i64 0, .bool false]) := Lib.hid (by rw [HV0.out]; rfl)
  clear hR g1 g2 h0 hp hk k1 HV0 hks h1 hL hRr hH h2 hLz
  go_wp2_with fail
  refine (Tryz.strings_HasPrefix _ _ _).mono ?_
  rintro e w' ⟨rfl, rfl⟩
  rw [P1.out]
  go_wp2_with fail
  refine (HANY.out _).mono ?_
  rintro e w1 ⟨rfl, hb1⟩
  have K1 := Lib.hid (two_new hb1)
  clear hb1
  obtain ⟨hA, hB, hbw, hsz⟩ := K1.out
  obtain ⟨⟨a0, a1, a2, a3, a4, a5, a6⟩, f0, f1, f2, f3, f4, f5, f6⟩ := blk7 hA
  obtain ⟨⟨c0, c1, c2, c3, c4, c5, c6⟩, x0, x1, x2, x3, x4, x5, x6⟩ := blk7 hB
  go_wp2_with fail
  refine (HHAS.out _).mono ?_
  rintro e w' ⟨rfl, rfl⟩
  go_wp2_with fail
  refine (HCUT.out _).mono ?_
  rintro e w2 ⟨rfl, hb2⟩
  have K2 := Lib.hid (two_kept K1.out hb2)
  clear hb2 hA hB hbw hsz a0 a1 a2 a3 a4 a5 a6 f0 f1 f2 f3 f4 f5 f6 c0 c1 c2 c3 c4 c5 c6 x0 x1 x2 x3 x4 x5 x6
  go_wp2_with fail
  refine (HTGT.out _).mono ?_
  rintro e w3 ⟨rfl, hb3⟩
  have K3 := Lib.hid (two_kept K2.out hb3)
  clear hb3
  obtain ⟨hA, hB, hbw, hsz⟩ := K3.out
  obtain ⟨⟨a0, a1, a2, a3, a4, a5, a6⟩, f0, f1, f2, f3, f4, f5, f6⟩ := blk7 hA
  obtain ⟨⟨c0, c1, c2, c3, c4, c5, c6⟩, x0, x1, x2, x3, x4, x5, x6⟩ := blk7 hB
  go_wp2_with fail
  refine bodyPost_ret (v := V) ?_ rfl ?_
  · simp [results, Tryz.results35, go_sem, a0, a1, a2, a3, a4, a5, a6]; exact HV.out.symm
  · refine ⟨rfl, ?_⟩
    repeat (with_reducible refine Below.setCell ?_ (by first | exact Nat.le_refl _ | exact Nat.le_succ _) _)
    exact hbw

set_option maxRecDepth 100000 in
set_option maxHeartbeats 4000000 in
theorem token_link_empty (s : ByteArray) (a : Nat) (w : World) (hs : s.size ≤ 4000000000) (ha : a < s.size) (k1 : pre s a ⟨#[91, 91]⟩ = true) (k : Nat) (hk : anyOf (s.extract (a + 2) s.size) brk = (k : Int)) (h1 : pre s (a + 2 + k) ⟨#[93, 93]⟩ = true) (h2 : isTgt (cutL (s.extract (a + 2) (a + 2 + k))) = true) (h3 : 0 ≤ bar (s.extract (a + 2) (a + 2 + k))) (h4 : (cutR (s.extract (a + 2) (a + 2 + k))).size = 0) :
    Calls Tryz.prog 35 #[.string s, .int .i64 a] w (Quiet w (oneSp s a).val) := by
  obtain ⟨V, hV⟩ : ∃ V, V = (oneSp s a).val := ⟨_, rfl⟩
  rw [← hV]
  have HV0 := Lib.hid hV
  clear hV
  have hp := pre_two (s := s) (n := a) (c := 91) (d := 91)
  rw [show ((91 : UInt8).toNat : Int) = 91 from rfl] at hp
  have hz : a + 2 ≤ s.size := pre_le k1 (Nat.le_of_lt ha)
  have h0 : (s[a].toNat : Int) = 91 := by rw [← bAt_lt ha]; exact (hp.1 k1).1
  have p1 : (a : Int) < s.size := by omega
  have p2 : (a : Int) + 1 ≤ s.size := by omega
  go_enter Tryz.func35, Tryz.ntmps35
  go_upto_region 3 with (fail)
  have hR := rest_mk (Nat.le_of_lt ha)
  generalize s.extract a s.size = r at hR ⊢
  have r1 : 0 < r.size := by have := hR.size; omega
  have r2 : (0 : Int) < r.size := by omega
  have r3 : (r.size : Int) ≤ 4000000000 := by have := hR.size; omega
  obtain ⟨g1, g2⟩ := hR.at r1
  simp only [Nat.add_zero] at g2
  have HR := Lib.hid hR
  have e0 : ((r[0].toNat : Int) == 92) = false := by rw [g2, h0]; rfl
  have e1 : ((r[0].toNat : Int) == 96) = false := by rw [g2, h0]; rfl
  have P1 := Lib.hid ((hR.pre ⟨#[91, 91]⟩).trans k1)
  have r4 : 2 ≤ r.size := by have := hR.size; omega
  have r5 : (2 : Int) ≤ r.size := by omega
  have hq : r.extract 2 r.size = s.extract (a + 2) s.size := by rw [hR.cut (Nat.le_refl _) r4]; congr 1; have := hR.size; omega
  obtain ⟨i, hi, hany⟩ := any_vars (r.extract 2 r.size) (by rw [ByteArray.size_extract]; omega)
  rw [hq] at hi
  have HANY := Lib.hid hany
  clear hany
  rw [hk] at hi
  subst hi
  have hks := brk_some hz hk
  have q1 : (0 : Int) ≤ (k : Int) := by omega
  have q2 : (2 : Int) + k ≤ r.size := by have := hR.size; omega
  have q3 : 2 + k ≤ r.size := by omega
  have hq2 : r.extract (2 + k) r.size = s.extract (a + 2 + k) s.size := by rw [hR.cut (Nat.le_refl _) q3]; congr 1; omega; have := hR.size; omega
  obtain ⟨b, hb, hhas⟩ := has_vars (r.extract (2 + k) r.size) ⟨#[93, 93]⟩
  have hb2 : b = pre s (a + 2 + k) ⟨#[93, 93]⟩ := by rw [hb, hq2]; rfl
  have HHAS := Lib.hid hhas
  clear hhas hb hq hq2
  rw [h1] at hb2
  subst hb2
  have ht : r.extract 2 (2 + k) = s.extract (a + 2) (a + 2 + k) := by rw [hR.cut q3 (by omega)]; congr 1; omega
  obtain ⟨L, R, H, hL, hRr, hH, hcut⟩ := cut_vars (r.extract 2 (2 + k)) (by rw [ByteArray.size_extract]; omega)
  rw [ht] at hL hRr hH
  have hLz : L.size ≤ 4000000000 := by rw [hL]; exact Nat.le_trans (cut_sizes _).1 (by rw [ByteArray.size_extract]; omega)
  obtain ⟨T, hT, htgt⟩ := tgt_vars L hLz
  have HCUT := Lib.hid hcut
  have HTGT := Lib.hid htgt
  clear hcut htgt ht
  rw [← hL] at h2
  rw [h2] at hT
  subst hT
  have hH2 : H = true := by rw [hH]; exact decide_eq_true h3
  have hR0 : R.size = 0 := by rw [hRr]; exact h4
  have z1 := str_empty hR0
  have z2 := str_isEmpty hR0
  subst hH2
  have HV : Hid (V = .agg #[.int .i64 1, .int .i64 a, .int .i64 ((a : Int) + 1), .string (s.extract a (a + 1)), .string ⟨#[]⟩, .int .i64 0, .bool false]) := Lib.hid (by rw [HV0.out]; rfl)
  clear hR g1 g2 h0 hp hk k1 HV0 hks h1 hL hRr hH h2 hLz h3 h4 hR0
  go_wp2_with fail
  refine (Tryz.strings_HasPrefix _ _ _).mono ?_
  rintro e w' ⟨rfl, rfl⟩
  rw [P1.out]
  go_wp2_with fail
  refine (HANY.out _).mono ?_
  rintro e w1 ⟨rfl, hb1⟩
  have K1 := Lib.hid (two_new hb1)
  clear hb1
  obtain ⟨hA, hB, hbw, hsz⟩ := K1.out
  obtain ⟨⟨a0, a1, a2, a3, a4, a5, a6⟩, f0, f1, f2, f3, f4, f5, f6⟩ := blk7 hA
  obtain ⟨⟨c0, c1, c2, c3, c4, c5, c6⟩, x0, x1, x2, x3, x4, x5, x6⟩ := blk7 hB
  go_wp2_with fail
  refine (HHAS.out _).mono ?_
  rintro e w' ⟨rfl, rfl⟩
  go_wp2_with fail
  refine (HCUT.out _).mono ?_
  rintro e w2 ⟨rfl, hb2⟩
  have K2 := Lib.hid (two_kept K1.out hb2)
  clear hb2 hA hB hbw hsz a0 a1 a2 a3 a4 a5 a6 f0 f1 f2 f3 f4 f5 f6 c0 c1 c2 c3 c4 c5 c6 x0 x1 x2 x3 x4 x5 x6
  go_wp2_with fail
  refine (HTGT.out _).mono ?_
  rintro e w3 ⟨rfl, hb3⟩
  have K3 := Lib.hid (two_kept K2.out hb3)
  clear hb3
  obtain ⟨hA, hB, hbw, hsz⟩ := K3.out
  obtain ⟨⟨a0, a1, a2, a3, a4, a5, a6⟩, f0, f1, f2, f3, f4, f5, f6⟩ := blk7 hA
  obtain ⟨⟨c0, c1, c2, c3, c4, c5, c6⟩, x0, x1, x2, x3, x4, x5, x6⟩ := blk7 hB
  go_wp2_with fail
  refine bodyPost_ret (v := V) ?_ rfl ?_
  · simp [results, Tryz.results35, go_sem, a0, a1, a2, a3, a4, a5, a6]; exact HV.out.symm
  · refine ⟨rfl, ?_⟩
    repeat (with_reducible refine Below.setCell ?_ (by first | exact Nat.le_refl _ | exact Nat.le_succ _) _)
    exact hbw

set_option maxRecDepth 100000 in
set_option maxHeartbeats 4000000 in
theorem token_link_nobar (s : ByteArray) (a : Nat) (w : World) (hs : s.size ≤ 4000000000) (ha : a < s.size) (k1 : pre s a ⟨#[91, 91]⟩ = true) (k : Nat) (hk : anyOf (s.extract (a + 2) s.size) brk = (k : Int)) (h1 : pre s (a + 2 + k) ⟨#[93, 93]⟩ = true) (h2 : isTgt (cutL (s.extract (a + 2) (a + 2 + k))) = true) (h3 : bar (s.extract (a + 2) (a + 2 + k)) < 0) :
    Calls Tryz.prog 35 #[.string s, .int .i64 a] w (Quiet w (spOf s ⟨2, a, a + k + 4⟩).val) := by
  obtain ⟨V, hV⟩ : ∃ V, V = (spOf s ⟨2, a, a + k + 4⟩).val := ⟨_, rfl⟩
  rw [← hV]
  have HV0 := Lib.hid hV
  clear hV
  have hp := pre_two (s := s) (n := a) (c := 91) (d := 91)
  rw [show ((91 : UInt8).toNat : Int) = 91 from rfl] at hp
  have hz : a + 2 ≤ s.size := pre_le k1 (Nat.le_of_lt ha)
  have h0 : (s[a].toNat : Int) = 91 := by rw [← bAt_lt ha]; exact (hp.1 k1).1
  have p1 : (a : Int) < s.size := by omega
  have p2 : (a : Int) + 1 ≤ s.size := by omega
  go_enter Tryz.func35, Tryz.ntmps35
  go_upto_region 3 with (fail)
  have hR := rest_mk (Nat.le_of_lt ha)
  generalize s.extract a s.size = r at hR ⊢
  have r1 : 0 < r.size := by have := hR.size; omega
  have r2 : (0 : Int) < r.size := by omega
  have r3 : (r.size : Int) ≤ 4000000000 := by have := hR.size; omega
  obtain ⟨g1, g2⟩ := hR.at r1
  simp only [Nat.add_zero] at g2
  have HR := Lib.hid hR
  have e0 : ((r[0].toNat : Int) == 92) = false := by rw [g2, h0]; rfl
  have e1 : ((r[0].toNat : Int) == 96) = false := by rw [g2, h0]; rfl
  have P1 := Lib.hid ((hR.pre ⟨#[91, 91]⟩).trans k1)
  have r4 : 2 ≤ r.size := by have := hR.size; omega
  have r5 : (2 : Int) ≤ r.size := by omega
  have hq : r.extract 2 r.size = s.extract (a + 2) s.size := by rw [hR.cut (Nat.le_refl _) r4]; congr 1; have := hR.size; omega
  obtain ⟨i, hi, hany⟩ := any_vars (r.extract 2 r.size) (by rw [ByteArray.size_extract]; omega)
  rw [hq] at hi
  have HANY := Lib.hid hany
  clear hany
  rw [hk] at hi
  subst hi
  have hks := brk_some hz hk
  have q1 : (0 : Int) ≤ (k : Int) := by omega
  have q2 : (2 : Int) + k ≤ r.size := by have := hR.size; omega
  have q3 : 2 + k ≤ r.size := by omega
  have hq2 : r.extract (2 + k) r.size = s.extract (a + 2 + k) s.size := by rw [hR.cut (Nat.le_refl _) q3]; congr 1; omega; have := hR.size; omega
  obtain ⟨b, hb, hhas⟩ := has_vars (r.extract (2 + k) r.size) ⟨#[93, 93]⟩
  have hb2 : b = pre s (a + 2 + k) ⟨#[93, 93]⟩ := by rw [hb, hq2]; rfl
  have HHAS := Lib.hid hhas
  clear hhas hb hq hq2
  rw [h1] at hb2
  subst hb2
  have ht : r.extract 2 (2 + k) = s.extract (a + 2) (a + 2 + k) := by rw [hR.cut q3 (by omega)]; congr 1; omega
  obtain ⟨L, R, H, hL, hRr, hH, hcut⟩ := cut_vars (r.extract 2 (2 + k)) (by rw [ByteArray.size_extract]; omega)
  rw [ht] at hL hRr hH
  have hLz : L.size ≤ 4000000000 := by rw [hL]; exact Nat.le_trans (cut_sizes _).1 (by rw [ByteArray.size_extract]; omega)
  obtain ⟨T, hT, htgt⟩ := tgt_vars L hLz
  have HCUT := Lib.hid hcut
  have HTGT := Lib.hid htgt
  clear hcut htgt ht
  rw [← hL] at h2
  rw [h2] at hT
  subst hT
  have HV : Hid (V = .agg #[.int .i64 4, .int .i64 a, .int .i64 ((a : Int) + k + 4), .string L, .string R, .int .i64 0, .bool false]) := Lib.hid (by
    rw [HV0.out, hL, hRr, show a + 2 + k = a + k + 4 - 2 by omega]; rfl)
  have hH2 : H = false := by rw [hH]; exact decide_eq_false (by omega)
  subst hH2
  clear hR g1 g2 h0 hp hk k1 HV0 hks h1 hL hRr hH h2 hLz h3
  go_wp2_with fail
  refine (Tryz.strings_HasPrefix _ _ _).mono ?_
  rintro e w' ⟨rfl, rfl⟩
  rw [P1.out]
  go_wp2_with fail
  refine (HANY.out _).mono ?_
  rintro e w1 ⟨rfl, hb1⟩
  have K1 := Lib.hid (two_new hb1)
  clear hb1
  obtain ⟨hA, hB, hbw, hsz⟩ := K1.out
  obtain ⟨⟨a0, a1, a2, a3, a4, a5, a6⟩, f0, f1, f2, f3, f4, f5, f6⟩ := blk7 hA
  obtain ⟨⟨c0, c1, c2, c3, c4, c5, c6⟩, x0, x1, x2, x3, x4, x5, x6⟩ := blk7 hB
  go_wp2_with fail
  refine (HHAS.out _).mono ?_
  rintro e w' ⟨rfl, rfl⟩
  go_wp2_with fail
  refine (HCUT.out _).mono ?_
  rintro e w2 ⟨rfl, hb2⟩
  have K2 := Lib.hid (two_kept K1.out hb2)
  clear hb2 hA hB hbw hsz a0 a1 a2 a3 a4 a5 a6 f0 f1 f2 f3 f4 f5 f6 c0 c1 c2 c3 c4 c5 c6 x0 x1 x2 x3 x4 x5 x6
  go_wp2_with fail
  refine (HTGT.out _).mono ?_
  rintro e w3 ⟨rfl, hb3⟩
  have K3 := Lib.hid (two_kept K2.out hb3)
  clear hb3
  obtain ⟨hA, hB, hbw, hsz⟩ := K3.out
  obtain ⟨⟨a0, a1, a2, a3, a4, a5, a6⟩, f0, f1, f2, f3, f4, f5, f6⟩ := blk7 hA
  obtain ⟨⟨c0, c1, c2, c3, c4, c5, c6⟩, x0, x1, x2, x3, x4, x5, x6⟩ := blk7 hB
  go_wp2_with fail
  refine bodyPost_ret (v := V) ?_ rfl ?_
  · simp [results, Tryz.results35, go_sem, a0, a1, a2, a3, a4, a5, a6]; exact HV.out.symm
  · refine ⟨rfl, ?_⟩
    repeat (with_reducible refine Below.setCell ?_ (by first | exact Nat.le_refl _ | exact Nat.le_succ _) _)
    exact hbw

set_option maxRecDepth 100000 in
set_option maxHeartbeats 4000000 in
theorem token_link_bar (s : ByteArray) (a : Nat) (w : World) (hs : s.size ≤ 4000000000) (ha : a < s.size) (k1 : pre s a ⟨#[91, 91]⟩ = true) (k : Nat) (hk : anyOf (s.extract (a + 2) s.size) brk = (k : Int)) (h1 : pre s (a + 2 + k) ⟨#[93, 93]⟩ = true) (h2 : isTgt (cutL (s.extract (a + 2) (a + 2 + k))) = true) (h3 : 0 ≤ bar (s.extract (a + 2) (a + 2 + k))) (h4 : 0 < (cutR (s.extract (a + 2) (a + 2 + k))).size) :
    Calls Tryz.prog 35 #[.string s, .int .i64 a] w (Quiet w (spOf s ⟨2, a, a + k + 4⟩).val) := by
  obtain ⟨V, hV⟩ : ∃ V, V = (spOf s ⟨2, a, a + k + 4⟩).val := ⟨_, rfl⟩
  rw [← hV]
  have HV0 := Lib.hid hV
  clear hV
  have hp := pre_two (s := s) (n := a) (c := 91) (d := 91)
  rw [show ((91 : UInt8).toNat : Int) = 91 from rfl] at hp
  have hz : a + 2 ≤ s.size := pre_le k1 (Nat.le_of_lt ha)
  have h0 : (s[a].toNat : Int) = 91 := by rw [← bAt_lt ha]; exact (hp.1 k1).1
  have p1 : (a : Int) < s.size := by omega
  have p2 : (a : Int) + 1 ≤ s.size := by omega
  go_enter Tryz.func35, Tryz.ntmps35
  go_upto_region 3 with (fail)
  have hR := rest_mk (Nat.le_of_lt ha)
  generalize s.extract a s.size = r at hR ⊢
  have r1 : 0 < r.size := by have := hR.size; omega
  have r2 : (0 : Int) < r.size := by omega
  have r3 : (r.size : Int) ≤ 4000000000 := by have := hR.size; omega
  obtain ⟨g1, g2⟩ := hR.at r1
  simp only [Nat.add_zero] at g2
  have HR := Lib.hid hR
  have e0 : ((r[0].toNat : Int) == 92) = false := by rw [g2, h0]; rfl
  have e1 : ((r[0].toNat : Int) == 96) = false := by rw [g2, h0]; rfl
  have P1 := Lib.hid ((hR.pre ⟨#[91, 91]⟩).trans k1)
  have r4 : 2 ≤ r.size := by have := hR.size; omega
  have r5 : (2 : Int) ≤ r.size := by omega
  have hq : r.extract 2 r.size = s.extract (a + 2) s.size := by rw [hR.cut (Nat.le_refl _) r4]; congr 1; have := hR.size; omega
  obtain ⟨i, hi, hany⟩ := any_vars (r.extract 2 r.size) (by rw [ByteArray.size_extract]; omega)
  rw [hq] at hi
  have HANY := Lib.hid hany
  clear hany
  rw [hk] at hi
  subst hi
  have hks := brk_some hz hk
  have q1 : (0 : Int) ≤ (k : Int) := by omega
  have q2 : (2 : Int) + k ≤ r.size := by have := hR.size; omega
  have q3 : 2 + k ≤ r.size := by omega
  have hq2 : r.extract (2 + k) r.size = s.extract (a + 2 + k) s.size := by rw [hR.cut (Nat.le_refl _) q3]; congr 1; omega; have := hR.size; omega
  obtain ⟨b, hb, hhas⟩ := has_vars (r.extract (2 + k) r.size) ⟨#[93, 93]⟩
  have hb2 : b = pre s (a + 2 + k) ⟨#[93, 93]⟩ := by rw [hb, hq2]; rfl
  have HHAS := Lib.hid hhas
  clear hhas hb hq hq2
  rw [h1] at hb2
  subst hb2
  have ht : r.extract 2 (2 + k) = s.extract (a + 2) (a + 2 + k) := by rw [hR.cut q3 (by omega)]; congr 1; omega
  obtain ⟨L, R, H, hL, hRr, hH, hcut⟩ := cut_vars (r.extract 2 (2 + k)) (by rw [ByteArray.size_extract]; omega)
  rw [ht] at hL hRr hH
  have hLz : L.size ≤ 4000000000 := by rw [hL]; exact Nat.le_trans (cut_sizes _).1 (by rw [ByteArray.size_extract]; omega)
  obtain ⟨T, hT, htgt⟩ := tgt_vars L hLz
  have HCUT := Lib.hid hcut
  have HTGT := Lib.hid htgt
  clear hcut htgt ht
  rw [← hL] at h2
  rw [h2] at hT
  subst hT
  have HV : Hid (V = .agg #[.int .i64 4, .int .i64 a, .int .i64 ((a : Int) + k + 4), .string L, .string R, .int .i64 0, .bool false]) := Lib.hid (by
    rw [HV0.out, hL, hRr, show a + 2 + k = a + k + 4 - 2 by omega]; rfl)
  have hH2 : H = true := by rw [hH]; exact decide_eq_true h3
  have hR0 : 0 < R.size := by rw [hRr]; exact h4
  have z1 := str_full hR0
  have z2 := str_nonEmpty hR0
  subst hH2
  clear hR g1 g2 h0 hp hk k1 HV0 hks h1 hL hRr hH h2 hLz h3 h4 hR0
  go_wp2_with fail
  refine (Tryz.strings_HasPrefix _ _ _).mono ?_
  rintro e w' ⟨rfl, rfl⟩
  rw [P1.out]
  go_wp2_with fail
  refine (HANY.out _).mono ?_
  rintro e w1 ⟨rfl, hb1⟩
  have K1 := Lib.hid (two_new hb1)
  clear hb1
  obtain ⟨hA, hB, hbw, hsz⟩ := K1.out
  obtain ⟨⟨a0, a1, a2, a3, a4, a5, a6⟩, f0, f1, f2, f3, f4, f5, f6⟩ := blk7 hA
  obtain ⟨⟨c0, c1, c2, c3, c4, c5, c6⟩, x0, x1, x2, x3, x4, x5, x6⟩ := blk7 hB
  go_wp2_with fail
  refine (HHAS.out _).mono ?_
  rintro e w' ⟨rfl, rfl⟩
  go_wp2_with fail
  refine (HCUT.out _).mono ?_
  rintro e w2 ⟨rfl, hb2⟩
  have K2 := Lib.hid (two_kept K1.out hb2)
  clear hb2 hA hB hbw hsz a0 a1 a2 a3 a4 a5 a6 f0 f1 f2 f3 f4 f5 f6 c0 c1 c2 c3 c4 c5 c6 x0 x1 x2 x3 x4 x5 x6
  go_wp2_with fail
  refine (HTGT.out _).mono ?_
  rintro e w3 ⟨rfl, hb3⟩
  have K3 := Lib.hid (two_kept K2.out hb3)
  clear hb3
  obtain ⟨hA, hB, hbw, hsz⟩ := K3.out
  obtain ⟨⟨a0, a1, a2, a3, a4, a5, a6⟩, f0, f1, f2, f3, f4, f5, f6⟩ := blk7 hA
  obtain ⟨⟨c0, c1, c2, c3, c4, c5, c6⟩, x0, x1, x2, x3, x4, x5, x6⟩ := blk7 hB
  go_wp2_with fail
  refine bodyPost_ret (v := V) ?_ rfl ?_
  · simp [results, Tryz.results35, go_sem, a0, a1, a2, a3, a4, a5, a6]; exact HV.out.symm
  · refine ⟨rfl, ?_⟩
    repeat (with_reducible refine Below.setCell ?_ (by first | exact Nat.le_refl _ | exact Nat.le_succ _) _)
    exact hbw

end Go.Proofs.YticdapkljbillaaGreatDoor
