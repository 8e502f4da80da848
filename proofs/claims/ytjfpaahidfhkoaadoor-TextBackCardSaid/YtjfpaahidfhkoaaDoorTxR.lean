/- TextBack, part 4: an edit that may be, and its inverse. -/
import Derived.Test.YtjfpaahidfhkoaaDoorTxQ
import Derived.WalkKit
import Derived.Lib.Hide
import Derived.Outline
import Derived.Deep.QuietTactic
import Derived.BigQuiet
import Derived.Deep.RegionHeld3
import Derived.Laws.EntriesVeiled
namespace Go.Proofs.YtjfpaahidfhkoaaDoor
open Go.RowKit
open Ke (editErr edited ctl isCtl dF dN comm applyAll composed GivesDiff GivesEdit EditsAt GivesStr)
open Km (shM IntsAt)

theorem apply_is (u y r : ByteArray) (f t : Nat) (t' : Int) (W : World) (hu : u.size ≤ 140737488351232) (hy : y.size ≤ 140737488351232) (ht : (t : Int) = t') (h : Hid (editErr u.size f t' y = 0)) (h1 : f ≤ t) (h2 : t ≤ u.size) (hr : Hid (edited u f t y = r)) :
    Calls Tryd.prog 17 #[.string u, .agg #[.int .i64 f, .int .i64 t', .string y]] W (GivesStr W r 0) := by
  subst ht
  have := Ke.apply_good u f t y W hu hy h h1 h2
  rw [hr.out] at this
  exact this

/-- Four numbers in a row of their own, none above lim. -/
def Fours (w : World) (lim : Nat) (e : Ending) (w' : World) : Prop :=
  ∃ g cap m0 m1 m2 m3, e = .returned (.slice (some ⟨g, 0, none⟩) 4 cap) ∧ (w'.cell? ⟨g, 0, none⟩ = some (.int .i64 m0) ∧ w'.cell? ⟨g, 1, none⟩ = some (.int .i64 m1) ∧ w'.cell? ⟨g, 2, none⟩ = some (.int .i64 m2) ∧ w'.cell? ⟨g, 3, none⟩ = some (.int .i64 m3)) ∧
    (0 ≤ m0 ∧ m0 ≤ lim) ∧ (0 ≤ m1 ∧ m1 ≤ lim) ∧ (0 ≤ m2 ∧ m2 ≤ lim) ∧ (0 ≤ m3 ∧ m3 ≤ lim) ∧ Below w.heap.size w w'

set_option maxHeartbeats 400000 in
theorem shift_four (W : World) (f t n lim : Nat) (x : ByteArray) (hx : x.size ≤ 140737488351232) (h1 : f ≤ t) (h2 : t ≤ n) (h3 : n ≤ 2000) (hl : n - (t - f) + x.size = lim) :
    Calls Tryd.prog 21 #[.slice (some ⟨W.heap.size, 0, none⟩) 4 4, .agg #[.int .i64 f, .int .i64 t, .string x], .bool false] (W.alloc (.cells #[.int .i64 0, .int .i64 f, .int .i64 t, .int .i64 n] 3))
      (Fours (W.alloc (.cells #[.int .i64 0, .int .i64 f, .int .i64 t, .int .i64 n] 3)) lim) := by
  have hb := heap_alloc_new W (.cells #[.int .i64 0, .int .i64 f, .int .i64 t, .int .i64 n] 3)
  have hz : IntsAt (W.alloc (.cells #[.int .i64 0, .int .i64 f, .int .i64 t, .int .i64 n] 3)) (W.alloc (.cells #[.int .i64 0, .int .i64 f, .int .i64 t, .int .i64 n] 3)).heap.size (some ⟨W.heap.size, 0, none⟩) [0, (f : Int), (t : Int), (n : Int)] := by
    intro k hk
    refine ⟨W.heap.size, 0, rfl, by simp, ?_⟩
    simp only [List.length_cons, List.length_nil] at hk
    have hk4 : k = 0 ∨ k = 1 ∨ k = 2 ∨ k = 3 := by omega
    rcases hk4 with rfl | rfl | rfl | rfl
    · exact cell_of_row _ _ 0 _ _ (0, 0) hb
    · exact cell_of_row _ _ 1 _ _ (0, 0) hb
    · exact cell_of_row _ _ 2 _ _ (0, 0) hb
    · exact cell_of_row _ _ 3 _ _ (0, 0) hb
  refine (Km.shift_any (some ⟨W.heap.size, 0, none⟩) 4 [0, (f : Int), (t : Int), (n : Int)] f t x false _ hz (by simp) hx).mono ?_
  rintro e w' ⟨v, rfl, hown, hbl⟩
  rcases hown.2 with ⟨_, h0⟩ | ⟨g, cap, cur, hv, _⟩
  · simp at h0
  · have hc := hown.cells (g := g) (by rw [hv]; rfl)
    have p0 := shM_in 0 f t n x.size h1 h2 h3 (.inl rfl)
    have p1 := shM_in f f t n x.size h1 h2 h3 (.inr (.inl rfl))
    have p2 := shM_in t f t n x.size h1 h2 h3 (.inr (.inr (.inl rfl)))
    have p3 := shM_in n f t n x.size h1 h2 h3 (.inr (.inr (.inr rfl)))
    rw [hl] at p0 p1 p2 p3
    refine ⟨g, cap, _, _, _, _, by rw [hv]; rfl, ⟨hc 0 _ rfl, hc 1 _ rfl, hc 2 _ rfl, hc 3 _ rfl⟩, p0, p1, p2, p3, hbl⟩

theorem shift_four_at (W : World) (B : Nat) (hB : B = W.heap.size) (f t n lim : Nat) (x : ByteArray) (hx : x.size ≤ 140737488351232) (h1 : f ≤ t) (h2 : t ≤ n) (h3 : n ≤ 2000) (hl : n - (t - f) + x.size = lim) :
    Calls Tryd.prog 21 #[.slice (some ⟨B, 0, none⟩) 4 4, .agg #[.int .i64 f, .int .i64 t, .string x], .bool false] (W.alloc (.cells #[.int .i64 0, .int .i64 f, .int .i64 t, .int .i64 n] 3))
      (Fours (W.alloc (.cells #[.int .i64 0, .int .i64 f, .int .i64 t, .int .i64 n] 3)) lim) := by
  subst hB
  exact shift_four W f t n lim x hx h1 h2 h3 hl
end Go.Proofs.YtjfpaahidfhkoaaDoor
