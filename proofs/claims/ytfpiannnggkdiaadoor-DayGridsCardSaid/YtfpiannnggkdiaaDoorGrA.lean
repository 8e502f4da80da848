/- DayGrids in plain numbers: the weeks of a month; days in a row. -/
import Derived.Test.YtfpiannnggkdiaaDoorDcB
namespace Go.Proofs.YtfpiannnggkdiaaDoor
open Go.RowKit

def wkCell (F L s : Int) (i : Nat) : Int := if s + i < F ∨ L < s + i then -1 else s + i
def wkRow (F L s : Int) : List Int := (List.range 7).map (wkCell F L s)
theorem wkRow_len (F L s : Int) : (wkRow F L s).length = 7 := by unfold wkRow; simp
theorem wkRow_at (F L s : Int) {i : Nat} (h : i < 7) : (wkRow F L s).getD i 0 = wkCell F L s i := by
  rw [List.getD_eq_getElem?_getD]
  unfold wkRow
  rw [List.getElem?_map, List.getElem?_range h]
  rfl
def wkN (F L : Int) : Nat := ((L - (F - F % 7)) / 7 + 1).toNat
def wkS (F : Int) (k : Nat) : Int := F - F % 7 + 7 * k
def gridL (F L : Int) (n : Nat) : List (List Int) := (List.range n).map fun k => wkRow F L (wkS F k)
theorem wk_more {F L : Int} {k : Nat} (h0 : 0 ≤ F) (h : F ≤ L) : wkS F k ≤ L ↔ k < wkN F L := by
  unfold wkS wkN
  omega
theorem gridL_len (F L : Int) (n : Nat) : (gridL F L n).length = n := by unfold gridL; simp
theorem gridL_succ (F L : Int) (n : Nat) : gridL F L (n + 1) = gridL F L n ++ [wkRow F L (wkS F n)] := by
  unfold gridL
  rw [List.range_succ, List.map_append]
  rfl
theorem gridL_rows {F L : Int} {n : Nat} {r : List Int} (h : r ∈ gridL F L n) : r.length = 7 := by
  unfold gridL at h
  obtain ⟨k, _, rfl⟩ := List.mem_map.1 h
  exact wkRow_len _ _ _
theorem wkN_few {F L : Int} (h0 : 0 ≤ F) (h1 : L ≤ F + 30) : wkN F L ≤ 6 := by unfold wkN; omega
def firstD (y m : Int) : Int := Cal.ys y + Cal.cum y m
def lastD (y m : Int) : Int := Cal.ys y + Cal.cum y m + Cal.ml y m - 1
/-- A month of which all days are days. -/
structure GridOk (y m : Int) : Prop where
  y1 : 2001 ≤ y
  y2 : y ≤ 2274
  m1 : 1 ≤ m
  m2 : m ≤ 12
  last : lastD y m ≤ 100000
theorem GridOk.bd {y m : Int} (h : GridOk y m) : 0 ≤ firstD y m ∧ firstD y m ≤ lastD y m ∧ lastD y m ≤ firstD y m + 30 := by
  have a := Cal.ys_bd y h.y1 (by have := h.y2; omega)
  have b := Cal.cum_bd y m h.m1 (by have := h.m2; omega)
  have c := Cal.ml_bd y m h.m1 h.m2
  unfold firstD lastD
  omega
/-! ### Days in a row -/
def DayB (d : Int) : Prop := 0 ≤ d ∧ d ≤ 100000
def StreakBad (l : List Int) (d : Int) : Prop := (∃ x ∈ l, ¬ DayB x) ∨ ¬ DayB d
open Classical in
noncomputable def streak0 (l : List Int) (d : Int) : Int := if d ∈ l then d else d - 1
theorem streak0_in {l : List Int} {d : Int} (h : d ∈ l) : streak0 l d = d := by unfold streak0; rw [if_pos h]
theorem streak0_out {l : List Int} {d : Int} (h : d ∉ l) : streak0 l d = d - 1 := by unfold streak0; rw [if_neg h]
/-- So many days in a row, going back from s. -/
structure RunIs (l : List Int) (s : Int) (c : Nat) : Prop where
  all : ∀ k : Nat, k < c → s - k ∈ l
  stop : s - c ∉ l
theorem RunIs.unique {l : List Int} {s : Int} {a b : Nat} (h : RunIs l s a) (g : RunIs l s b) : a = b := by
  rcases Nat.lt_trichotomy a b with e | e | e
  · exact absurd (g.all a e) h.stop
  · exact e
  · exact absurd (h.all b e) g.stop
/-- What Streak gives. -/
def StreakIs (l : List Int) (d : Int) (e : Ending) : Prop :=
  (5000 < l.length ∧ e = .returned (.tuple #[.int .i64 0, .int .i64 4])) ∨
  (l.length ≤ 5000 ∧ StreakBad l d ∧ e = .returned (.tuple #[.int .i64 0, .int .i64 2])) ∨
  (l.length ≤ 5000 ∧ ¬ StreakBad l d ∧ ∃ c : Nat, RunIs l (streak0 l d) c ∧ c ≤ 100001 ∧ e = .returned (.tuple #[.int .i64 c, .int .i64 0]))
/-- Both say one. -/
theorem StreakIs.both {l : List Int} {d : Int} {e e' : Ending} (h : StreakIs l d e) (g : StreakIs l d e') : ∃ c er : Int, e = .returned (.tuple #[.int .i64 c, .int .i64 er]) ∧ e' = .returned (.tuple #[.int .i64 c, .int .i64 er]) := by
  rcases h with ⟨h1, h2⟩ | ⟨h1, h2, h3⟩ | ⟨h1, h2, c, h3, _, h4⟩
  · rcases g with ⟨g1, g2⟩ | ⟨g1, g2, g3⟩ | ⟨g1, g2, c', g3, _, g4⟩
    · exact ⟨_, _, h2, g2⟩
    · omega
    · omega
  · rcases g with ⟨g1, g2⟩ | ⟨g1, g2, g3⟩ | ⟨g1, g2, c', g3, _, g4⟩
    · omega
    · exact ⟨_, _, h3, g3⟩
    · exact absurd h2 g2
  · rcases g with ⟨g1, g2⟩ | ⟨g1, g2, g3⟩ | ⟨g1, g2, c', g3, _, g4⟩
    · omega
    · exact absurd g2 h2
    · obtain rfl := h3.unique g3
      exact ⟨_, _, h4, g4⟩
end Go.Proofs.YtfpiannnggkdiaaDoor
