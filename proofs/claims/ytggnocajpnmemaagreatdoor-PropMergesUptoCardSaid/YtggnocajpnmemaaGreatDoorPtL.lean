/- Properties: the reference's ValueFault: what is unused. -/
import Derived.Test.YtggnocajpnmemaaGreatDoorPuX
import Derived.WalkKit
import Derived.Lib.Hide
import Derived.Outline
import Derived.Below
import Derived.Deep.QuietTactic
import Derived.BigQuiet
namespace Go.Proofs.YtggnocajpnmemaaGreatDoor
open Go.RowKit Go.Shelf

set_option maxRecDepth 100000 in
set_option maxHeartbeats 20000000 in
theorem vf_un1 (k i t : Int) (s : ByteArray) (A : Option Addr) (n c : Nat) (w : World) (hk : k = 0 ∨ k = 3 ∨ k = 6 ∨ k = 7) (q : (i != 0) = true) :
    Calls Tryz.prog 8 #[.agg #[.int .i64 k, .int .i64 i, .int .i64 t, .string s, .slice A n c]] w (Quiet w (.int .i64 1)) := by
  rcases hk with rfl | rfl | rfl | rfl
  all_goals
    go_enter Tryz.func8, Tryz.ntmps8
    go_wp2_with fail
    go_ret
    exact ⟨rfl, (Below.refl _ _).alloc (Nat.le_refl _) _⟩
set_option maxRecDepth 100000 in
set_option maxHeartbeats 20000000 in
theorem vf_un2 (k i t : Int) (s : ByteArray) (A : Option Addr) (n c : Nat) (w : World) (bi : Bool) (q : (i != 0) = bi) (hi : bi = false ∨ k = 1 ∨ k = 2 ∨ k = 4) (hk : k = 0 ∨ k = 1 ∨ k = 2 ∨ k = 3 ∨ k = 4 ∨ k = 6 ∨ k = 7) (qt : (t != 0) = true) :
    Calls Tryz.prog 8 #[.agg #[.int .i64 k, .int .i64 i, .int .i64 t, .string s, .slice A n c]] w (Quiet w (.int .i64 1)) := by
  cases bi <;> rcases hk with rfl | rfl | rfl | rfl | rfl | rfl | rfl
  all_goals first
    | exact absurd hi (by decide)
    | (clear hi
       go_enter Tryz.func8, Tryz.ntmps8
       go_wp2_with fail
       go_ret
       exact ⟨rfl, (Below.refl _ _).alloc (Nat.le_refl _) _⟩)
set_option maxRecDepth 100000 in
set_option maxHeartbeats 20000000 in
theorem vf_un3 (k i t : Int) (s : ByteArray) (A : Option Addr) (n c : Nat) (w : World) (bi bt : Bool) (q : (i != 0) = bi) (qt : (t != 0) = bt) (hi : bi = false ∨ k = 1 ∨ k = 2 ∨ k = 4 ∨ k = 5) (ht : bt = false ∨ k = 5) (hk : k = 0 ∨ k = 1 ∨ k = 2 ∨ k = 4 ∨ k = 5 ∨ k = 7) (h0 : 0 < s.size) :
    Calls Tryz.prog 8 #[.agg #[.int .i64 k, .int .i64 i, .int .i64 t, .string s, .slice A n c]] w (Quiet w (.int .i64 1)) := by
  have z1 := str_full h0
  have z2 := str_nonEmpty h0
  clear h0
  cases bi <;> cases bt <;> rcases hk with rfl | rfl | rfl | rfl | rfl | rfl
  all_goals first
    | exact absurd hi (by decide)
    | exact absurd ht (by decide)
    | (clear hi ht
       go_enter Tryz.func8, Tryz.ntmps8
       go_wp2_with fail
       go_ret
       exact ⟨rfl, (Below.refl _ _).alloc (Nat.le_refl _) _⟩)
set_option maxRecDepth 100000 in
set_option maxHeartbeats 20000000 in
theorem vf_un4 (k i t : Int) (s : ByteArray) (A : Option Addr) (n c : Nat) (w : World) (bi bt : Bool) (q : (i != 0) = bi) (qt : (t != 0) = bt) (hi : bi = false ∨ k = 1 ∨ k = 2 ∨ k = 4 ∨ k = 5) (ht : bt = false ∨ k = 5) (hk : k = 0 ∨ k = 1 ∨ k = 2 ∨ k = 4 ∨ k = 5) (h0 : s.size = 0) (hn : 0 < n) :
    Calls Tryz.prog 8 #[.agg #[.int .i64 k, .int .i64 i, .int .i64 t, .string s, .slice A n c]] w (Quiet w (.int .i64 1)) := by
  have z1 := str_empty h0
  have z2 := str_isEmpty h0
  have p1 : (0 : Int) < n := by omega
  clear h0 hn
  cases bi <;> cases bt <;> rcases hk with rfl | rfl | rfl | rfl | rfl
  all_goals first
    | exact absurd hi (by decide)
    | exact absurd ht (by decide)
    | (clear hi ht
       go_enter Tryz.func8, Tryz.ntmps8
       go_wp2_with fail
       go_ret
       exact ⟨rfl, (Below.refl _ _).alloc (Nat.le_refl _) _⟩)
set_option maxRecDepth 100000 in
set_option maxHeartbeats 20000000 in
theorem vf_un5 (k i t : Int) (s : ByteArray) (A : Option Addr) (n c : Nat) (w : World) (q : (i != 0) = false) (qt : (t != 0) = false) (hk : k = 3 ∨ k = 6) (hn : 0 < n) :
    Calls Tryz.prog 8 #[.agg #[.int .i64 k, .int .i64 i, .int .i64 t, .string s, .slice A n c]] w (Quiet w (.int .i64 1)) := by
  have p1 : (0 : Int) < n := by omega
  clear hn
  by_cases h0 : s.size = 0
  · have z1 := str_empty h0
    have z2 := str_isEmpty h0
    clear h0
    rcases hk with rfl | rfl
    all_goals
      go_enter Tryz.func8, Tryz.ntmps8
      go_wp2_with fail
      go_ret
      exact ⟨rfl, (Below.refl _ _).alloc (Nat.le_refl _) _⟩
  · have z1 := str_full (by omega : 0 < s.size)
    have z2 := str_nonEmpty (by omega : 0 < s.size)
    clear h0
    rcases hk with rfl | rfl
    all_goals
      go_enter Tryz.func8, Tryz.ntmps8
      go_wp2_with fail
      go_ret
      exact ⟨rfl, (Below.refl _ _).alloc (Nat.le_refl _) _⟩
theorem vf_unused (k i t : Int) (s : ByteArray) (A : Option Addr) (n c : Nat) (w : World) (hk : 0 ≤ k ∧ k ≤ 7) (hu : unusedB k i t s n = true) :
    Calls Tryz.prog 8 #[.agg #[.int .i64 k, .int .i64 i, .int .i64 t, .string s, .slice A n c]] w (Quiet w (.int .i64 1)) := by
  unfold unusedB at hu
  simp only [Bool.or_eq_true, Bool.and_eq_true, decide_eq_true_eq, Bool.not_eq_true', useI, useS, decide_eq_false_iff_not] at hu
  by_cases h1 : i ≠ 0 ∧ ¬ (k = 1 ∨ k = 2 ∨ k = 4 ∨ k = 5)
  · exact vf_un1 k i t s A n c w (by omega) (by simpa using h1.1)
  · have hi : (i != 0) = false ∨ k = 1 ∨ k = 2 ∨ k = 4 ∨ k = 5 := by
      by_cases e : i = 0
      · exact .inl (by simp [e])
      · exact .inr (by omega)
    by_cases h2 : t ≠ 0 ∧ ¬ k = 5
    · exact vf_un2 k i t s A n c w _ rfl (by rcases hi with h | h; exact .inl h; exact .inr (by omega)) (by omega) (by simpa using h2.1)
    · have ht : (t != 0) = false ∨ k = 5 := by
        by_cases e : t = 0
        · exact .inl (by simp [e])
        · exact .inr (by omega)
      by_cases h3 : s.size ≠ 0 ∧ ¬ (k = 3 ∨ k = 6)
      · exact vf_un3 k i t s A n c w _ _ rfl rfl hi ht (by omega) (by omega)
      · by_cases h4 : k = 3 ∨ k = 6
        · exact vf_un5 k i t s A n c w (by rcases hi with h | h; exact h; omega) (by rcases ht with h | h; exact h; omega) h4 (by omega)
        · exact vf_un4 k i t s A n c w _ _ rfl rfl hi ht (by omega) (by omega) (by omega)
end Go.Proofs.YtggnocajpnmemaaGreatDoor
