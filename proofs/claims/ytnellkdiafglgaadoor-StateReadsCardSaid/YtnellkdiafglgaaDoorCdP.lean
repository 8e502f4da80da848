/- Cards: reviews; Replay in plain words. -/
import Derived.Test.YtnellkdiafglgaaDoorCdA
namespace Go.Proofs.YtnellkdiafglgaaDoor
open Go.RowKit

structure RvV where
  bl : Int
  no : Int
  gr : Int
  dy : Int
/-- Replay from a state on. -/
def rep (b n : Int) : Nat → StV → List RvV → StV × Int × Int
  | _, x, [] => (x, 0, 0)
  | i, x, r :: l => if r.bl = b ∧ r.no = n then (if gradeE x r.gr r.dy = 0 then rep b n (i + 1) (gradedV x r.gr r.dy) l else (StV.zero, (i : Int), gradeE x r.gr r.dy)) else rep b n (i + 1) x l
def replayV (b n : Int) (l : List RvV) : StV × Int × Int :=
  if stE (StV.fresh b n) ≠ 0 then (StV.zero, 0, stE (StV.fresh b n)) else if 20000 < l.length then (StV.zero, 0, 4) else rep b n 0 (StV.fresh b n) l
theorem rep_end (b n : Int) (x : StV) (l : List RvV) : rep b n l.length x (l.drop l.length) = (x, 0, 0) := by
  rw [List.drop_eq_nil_of_le (Nat.le_refl _)]
  rfl
theorem rep_at (b n : Int) (x : StV) (l : List RvV) (k : Nat) (h : k < l.length) :
    rep b n k x (l.drop k) = if l[k].bl = b ∧ l[k].no = n then (if gradeE x l[k].gr l[k].dy = 0 then rep b n (k + 1) (gradedV x l[k].gr l[k].dy) (l.drop (k + 1)) else (StV.zero, (k : Int), gradeE x l[k].gr l[k].dy)) else rep b n (k + 1) x (l.drop (k + 1)) := by
  rw [List.drop_eq_getElem_cons h]
  rfl
theorem graded_bl (x : StV) (g d : Int) : (gradedV x g d).bl = x.bl ∧ (gradedV x g d).no = x.no := ⟨rfl, rfl⟩
def RvVsAt (w : World) (B : Nat) (A : Option Addr) (l : List RvV) : Prop :=
  ∀ k x, l[k]? = some x → ∃ b off, A = some ⟨b, off, none⟩ ∧ b < B ∧ w.cell? ⟨b, off + k * 4, none⟩ = some (.int .i64 x.bl) ∧ w.cell? ⟨b, off + k * 4 + 1, none⟩ = some (.int .i64 x.no) ∧ w.cell? ⟨b, off + k * 4 + 2, none⟩ = some (.int .i64 x.gr) ∧ w.cell? ⟨b, off + k * 4 + 3, none⟩ = some (.int .i64 x.dy)
theorem RvVsAt.at_ {w wr : World} {A : Option Addr} {l : List RvV} {k : Nat} (h : RvVsAt w w.heap.size A l) (hb : Below w.heap.size w wr) (hk : k < l.length) :
    ∃ b off, A = some ⟨b, off, none⟩ ∧ b < w.heap.size ∧ wr.cell? ⟨b, off + k * 4, none⟩ = some (.int .i64 l[k].bl) ∧ wr.cell? ⟨b, off + k * 4 + 1, none⟩ = some (.int .i64 l[k].no) ∧ wr.cell? ⟨b, off + k * 4 + 2, none⟩ = some (.int .i64 l[k].gr) ∧ wr.cell? ⟨b, off + k * 4 + 3, none⟩ = some (.int .i64 l[k].dy) := by
  obtain ⟨b, off, hA, hB, c0, c1, c2, c3⟩ := h k _ (List.getElem?_eq_getElem hk)
  exact ⟨b, off, hA, hB, (hb.cell (p := ⟨b, _, none⟩) hB).trans c0, (hb.cell (p := ⟨b, _, none⟩) hB).trans c1, (hb.cell (p := ⟨b, _, none⟩) hB).trans c2, (hb.cell (p := ⟨b, _, none⟩) hB).trans c3⟩
theorem RvVsAt.up {w w' : World} {A : Option Addr} {l : List RvV} (h : RvVsAt w w.heap.size A l) (hb : Below w.heap.size w w') : RvVsAt w' w'.heap.size A l := fun k x hk => by
  obtain ⟨b, off, hA, hB, c0, c1, c2, c3⟩ := h k x hk
  exact ⟨b, off, hA, Nat.lt_of_lt_of_le hB hb.size, (hb.cell (p := ⟨b, _, none⟩) hB).trans c0, (hb.cell (p := ⟨b, _, none⟩) hB).trans c1, (hb.cell (p := ⟨b, _, none⟩) hB).trans c2, (hb.cell (p := ⟨b, _, none⟩) hB).trans c3⟩
end Go.Proofs.YtnellkdiafglgaaDoor
