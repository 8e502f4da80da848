/- Properties: hasUnused, days. -/
import Derived.Test.YtfpiannnggkdiaaDoorPtX
import Derived.WalkKit
import Derived.Lib.Hide
import Derived.Outline
import Derived.Below
import Derived.Deep.QuietTactic
import Derived.BigQuiet
namespace Go.Proofs.YtfpiannnggkdiaaDoor
open Go.RowKit Go.Shelf

def unB (k : Int) (bi bt bs bn : Bool) : Bool := (bi && !useI k) || (bt && !decide (k = 5)) || (bs && !useS k) || (bn && !decide (k = 7))
theorem unB_eq (k i t : Int) (s : ByteArray) (n : Nat) : unusedB k i t s n = unB k (decide (i ≠ 0)) (decide (t ≠ 0)) (decide (s.size ≠ 0)) (decide (0 < n)) := rfl
theorem neq_dec (i : Int) : (i != 0) = decide (i ≠ 0) := by rw [Bool.eq_iff_iff]; simp

set_option maxRecDepth 100000 in
set_option maxHeartbeats 40000000 in
theorem hasUnused_any (k i t : Int) (s : ByteArray) (A : Option Addr) (n c : Nat) (w : World) (hk : 0 ≤ k ∧ k ≤ 7) (hz : s.size ≤ 1048576) (hn : n ≤ 1048576) :
    Calls Tryd.prog 83 #[.agg #[.int .i64 k, .int .i64 i, .int .i64 t, .string s, .slice A n c]] w (Quiet w (.bool (unusedB k i t s n))) := by
  rw [unB_eq]
  have qi := neq_dec i
  have qt := neq_dec t
  obtain ⟨bi, hbi⟩ : ∃ b, b = decide (i ≠ 0) := ⟨_, rfl⟩
  obtain ⟨bt, hbt⟩ : ∃ b, b = decide (t ≠ 0) := ⟨_, rfl⟩
  rw [← hbi] at qi ⊢
  rw [← hbt] at qt ⊢
  clear hbi hbt
  have hk8 : k = 0 ∨ k = 1 ∨ k = 2 ∨ k = 3 ∨ k = 4 ∨ k = 5 ∨ k = 6 ∨ k = 7 := by omega
  by_cases h0 : s.size = 0
  · have z1 := str_empty h0
    have z2 := str_isEmpty h0
    rw [show decide (s.size ≠ 0) = false from decide_eq_false (by omega)]
    clear h0 hk
    by_cases h1 : 0 < n
    · have p1 : (0 : Int) < n := by omega
      rw [show decide (0 < n) = true from decide_eq_true h1]
      clear h1
      cases bi <;> cases bt <;> rcases hk8 with rfl | rfl | rfl | rfl | rfl | rfl | rfl | rfl
      all_goals
        go_enter Tryd.func83, Tryd.ntmps83
        go_wp2
        go_ret
        exact ⟨rfl, (Below.refl _ _).alloc (Nat.le_refl _) _⟩
    · obtain rfl : n = 0 := by omega
      cases bi <;> cases bt <;> rcases hk8 with rfl | rfl | rfl | rfl | rfl | rfl | rfl | rfl
      all_goals
        go_enter Tryd.func83, Tryd.ntmps83
        go_wp2
        go_ret
        exact ⟨rfl, (Below.refl _ _).alloc (Nat.le_refl _) _⟩
  · have z1 := str_full (by omega : 0 < s.size)
    have z2 := str_nonEmpty (by omega : 0 < s.size)
    rw [show decide (s.size ≠ 0) = true from decide_eq_true h0]
    clear h0 hk
    by_cases h1 : 0 < n
    · have p1 : (0 : Int) < n := by omega
      rw [show decide (0 < n) = true from decide_eq_true h1]
      clear h1
      cases bi <;> cases bt <;> rcases hk8 with rfl | rfl | rfl | rfl | rfl | rfl | rfl | rfl
      all_goals
        go_enter Tryd.func83, Tryd.ntmps83
        go_wp2
        go_ret
        exact ⟨rfl, (Below.refl _ _).alloc (Nat.le_refl _) _⟩
    · obtain rfl : n = 0 := by omega
      cases bi <;> cases bt <;> rcases hk8 with rfl | rfl | rfl | rfl | rfl | rfl | rfl | rfl
      all_goals
        go_enter Tryd.func83, Tryd.ntmps83
        go_wp2
        go_ret
        exact ⟨rfl, (Below.refl _ _).alloc (Nat.le_refl _) _⟩

end Go.Proofs.YtfpiannnggkdiaaDoor
