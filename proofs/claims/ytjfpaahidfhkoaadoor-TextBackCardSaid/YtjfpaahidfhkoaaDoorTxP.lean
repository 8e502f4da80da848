/- TextBack, part 2: the law. -/
import Derived.Test.YtjfpaahidfhkoaaDoorTxO
import Derived.WalkKit
import Derived.Lib.Hide
import Derived.Outline
import Derived.Deep.QuietTactic
import Derived.BigQuiet
import Derived.Deep.RegionHeld3
import Derived.Laws.EntriesVeiled
namespace Go.Proofs.YtjfpaahidfhkoaaDoor
open Go.RowKit
open Ke (editErr edited ctl isCtl dF dN comm applyAll composed GivesDiff)
open Km (shM)

/-- What Diff gives leads from the one string to the other. -/
def Tells (w : World) (a b : ByteArray) (e : Ending) (w' : World) : Prop :=
  ∃ P Q D, e = .returned (.agg #[.int .i64 (P : Nat), .int .i64 (Q : Nat), .string D]) ∧ Below w.heap.size w w' ∧ P ≤ Q ∧ Q ≤ a.size ∧ D.size ≤ 140737488351232 ∧ a.extract 0 P ++ D ++ a.extract Q a.size = b
theorem diff_tells (a b : ByteArray) (w : World) (ha : a.size ≤ 140737488351232) (hb : b.size ≤ 140737488351232) :
    Calls Tryd.prog 22 #[.string a, .string b] w (Tells w a b) := by
  refine (Ke.diff_any a b w ha hb).mono ?_
  rintro e w' ⟨rfl, h⟩
  have := diff_sizes a b
  exact ⟨dF a b, a.size - dN a b, _, rfl, h, by omega, by omega, by rw [ByteArray.size_extract]; omega, diff_edited a b⟩

set_option maxRecDepth 100000 in
set_option maxHeartbeats 4000000 in
theorem back_bad (s x b : ByteArray) (f t : Int) (w : World) (hs : s.size ≤ 140737488351232) (hx : x.size ≤ 140737488351232) (hb : b.size ≤ 140737488351232) (h : editErr s.size f t x ≠ 0) :
    Calls Tryd.prog 5 #[.string s, .agg #[.int .i64 f, .int .i64 t, .string x], .string b] w (Quiet w (.bool true)) := by
  obtain ⟨n, hn⟩ : ∃ n, n = editErr s.size f t x := ⟨_, rfl⟩
  have h1 : (n == 0) = false := by rw [hn]; simpa using h
  have HH := Lib.hid h
  have HN := Lib.hid hn
  clear hn h
  go_enter Tryd.func5, Tryd.ntmps5
  go_wp2_with fail
  refine (awakeText_any _).mono ?_
  rintro e1 w1 ⟨rfl, hb1⟩
  have k1 : w1.heap[w.heap.size]? = some (.cells #[.int .i64 f, .int .i64 t, .string x] 46 (0, 0)) := (hb1.block _ (by simp)).trans (heap_alloc_new w _)
  have B1 := Lib.hid (((Below.refl _ _).alloc (Nat.le_refl _) (.cells #[.int .i64 f, .int .i64 t, .string x] 46)).trans (hb1.mono (by simp)))
  obtain ⟨c1, c2, c3, _⟩ := Ke.blk_cells k1
  clear hb1 k1
  go_wp2_with fail
  refine (Ke.apply_bad s f t x w1 hs hx HH).mono ?_
  rw [← HN.out]
  rintro e2 w2 ⟨rfl, hb2⟩
  have B2 := Lib.hid (B1.out.trans (hb2.mono B1.out.size))
  clear hb2
  go_wp2_with fail
  refine (diff_tells s b w2 hs hb).mono ?_
  rintro e3 w3 ⟨P, Q, D, rfl, hb3, q1, q2, q4, q3⟩
  have B3 := Lib.hid (B2.out.trans (hb3.mono B2.out.size))
  have p0 : decide ((P : Int) < 0) = false := decide_eq_false (by omega)
  have p1 : decide ((Q : Int) < P) = false := decide_eq_false (by omega)
  have p2 : decide ((s.size : Int) < Q) = false := decide_eq_false (by omega)
  have q5 : P ≤ s.size := by omega
  have z1 : ¬ 9223372036854775807 < P + D.size := by omega
  have z2 : ¬ 9223372036854775807 < P + D.size + (s.size - Q) := by omega
  have p3 : (P : Int) ≤ s.size := by omega
  have p4 : (Q : Int) ≤ s.size := by omega
  clear hb3
  go_wp2_with fail
  go_quiet (fail)
  go_wp2
  go_ret
  exact ⟨rfl, below_drewN' (B3.out.alloc B3.out.size _) _⟩
end Go.Proofs.YtjfpaahidfhkoaaDoor
