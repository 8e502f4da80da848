/- Cards: parseState at whatever string. -/
import Derived.Test.YtnellkdiafglgaaDoorCdSc
namespace Go.Proofs.YtnellkdiafglgaaDoor
open Go.RowKit Go.Shelf Go.Joins

/-- The words of a string. -/
def wsOf (s : ByteArray) : List ByteArray := Lib.splitB ⟨#[32]⟩ 0 (Lib.countB s ⟨#[32]⟩) s
theorem wsOf_len (s : ByteArray) : (wsOf s).length = Lib.countB s ⟨#[32]⟩ + 1 := Lib.splitB_all ⟨#[32]⟩ (by decide) 0 _ s rfl
def wAt (s : ByteArray) (k : Nat) : ByteArray := (wsOf s).getD k ⟨#[]⟩
/-- The state whose form the string is, right or not; none: it has no form. -/
def Reads (s : ByteArray) : Option StV → Prop
  | some x => Lib.countB s ⟨#[32]⟩ = 8 ∧ ∀ k, k < 9 → wordE (wAt s k).data.toList = some ((fldL x).getD k 0)
  | none => Lib.countB s ⟨#[32]⟩ ≠ 8 ∨ ∃ k, k < 9 ∧ wordE (wAt s k).data.toList = none
theorem fld_ext {x y : StV} (h : ∀ k, k < 9 → (fldL x).getD k 0 = (fldL y).getD k 0) : x = y := by
  obtain ⟨a0, a1, a2, a3, a4, a5, a6, a7, a8⟩ := x
  obtain ⟨b0, b1, b2, b3, b4, b5, b6, b7, b8⟩ := y
  have h0 : a0 = b0 := h 0 (by omega)
  have h1 : a1 = b1 := h 1 (by omega)
  have h2 : a2 = b2 := h 2 (by omega)
  have h3 : a3 = b3 := h 3 (by omega)
  have h4 : a4 = b4 := h 4 (by omega)
  have h5 : a5 = b5 := h 5 (by omega)
  have h6 : a6 = b6 := h 6 (by omega)
  have h7 : a7 = b7 := h 7 (by omega)
  have h8 : a8 = b8 := h 8 (by omega)
  subst h0 h1 h2 h3 h4 h5 h6 h7 h8
  rfl
theorem Reads.unique {s : ByteArray} : ∀ {a b : Option StV}, Reads s a → Reads s b → a = b
  | some x, some y, ⟨_, h1⟩, ⟨_, h2⟩ => by
    congr 1
    exact fld_ext fun k hk => Option.some.inj ((h1 k hk).symm.trans (h2 k hk))
  | some x, none, ⟨h1, h2⟩, h => by
    rcases h with h | ⟨k, hk, h⟩
    · exact absurd h1 h
    · rw [h2 k hk] at h; cases h
  | none, some x, h, ⟨h1, h2⟩ => by
    rcases h with h | ⟨k, hk, h⟩
    · exact absurd h1 h
    · rw [h2 k hk] at h; cases h
  | none, none, _, _ => rfl
def setF (x : StV) : Nat → Int → StV
  | 0, y => { x with bl := y }
  | 1, y => { x with no := y }
  | 2, y => { x with st := y }
  | 3, y => { x with ea := y }
  | 4, y => { x with du := y }
  | 5, y => { x with la := y }
  | 6, y => { x with ti := y }
  | 7, y => { x with lp := y }
  | _, y => { x with bu := y }
theorem nine_cases {k : Nat} (h : k < 9) : k = 0 ∨ k = 1 ∨ k = 2 ∨ k = 3 ∨ k = 4 ∨ k = 5 ∨ k = 6 ∨ k = 7 ∨ k = 8 := by omega
theorem setF_same (x : StV) (k : Nat) (y : Int) (h : k < 9) : (fldL (setF x k y)).getD k 0 = y := by
  rcases nine_cases h with rfl | rfl | rfl | rfl | rfl | rfl | rfl | rfl | rfl <;> rfl
theorem setF_other (x : StV) (k j : Nat) (y : Int) (h : k < 9) (hj : j < k) : (fldL (setF x k y)).getD j 0 = (fldL x).getD j 0 := by
  rcases nine_cases h with rfl | rfl | rfl | rfl | rfl | rfl | rfl | rfl | rfl <;> rcases nine_cases (by omega : j < 9) with rfl | rfl | rfl | rfl | rfl | rfl | rfl | rfl | rfl <;> first | rfl | (exfalso; omega)
theorem setF_put (x : StV) (k : Nat) (y : Int) (h : k < 9) : (partC x k).setIfInBounds k (.int .i64 y) = partC (setF x k y) (k + 1) := by
  rcases nine_cases h with rfl | rfl | rfl | rfl | rfl | rfl | rfl | rfl | rfl <;> rfl
def wordsC (s : ByteArray) : Array Value := ((wsOf s).map Value.string).toArray
theorem wordsC_at (s : ByteArray) (k : Nat) (h : k < (wsOf s).length) : (wordsC s)[k]? = some (.string (wAt s k)) := by
  unfold wordsC wAt
  rw [List.getElem?_toArray, List.getElem?_map, List.getElem?_eq_getElem h, List.getD_eq_getElem?_getD, List.getElem?_eq_getElem h]
  rfl
/-- The rounds so far. -/
structure PgRow (w : World) (s : ByteArray) (R X S A k : Nat) (x : StV) (wr : World) : Prop where
  bel : Below w.heap.size w wr
  res : wr.heap[R]? = some (.cells #[.int .i64 0, .int .i64 0, .int .i64 0, .int .i64 0, .int .i64 0, .int .i64 0, .int .i64 0, .int .i64 0, .int .i64 0] 23 (0, 0))
  box : wr.heap[X]? = some (.cells (partC x k) 23 (0, 0))
  wrd : wr.heap[S]? = some (.cells (wordsC s) 9 (0, 0))
  ptr : wr.heap[A]? = some (.cells (ptrC X) 57 (0, 0))
  got : ∀ j, j < k → wordE (wAt s j).data.toList = some ((fldL x).getD j 0)
/-- What parseState gives. -/
def ParseGives (s : ByteArray) (e : Ending) : Prop := (∃ x : StV, Reads s (some x) ∧ e = .returned (.tuple #[x.v, .bool true])) ∨ (Reads s none ∧ e = .returned (.tuple #[StV.zero.v, .bool false]))
end Go.Proofs.YtnellkdiafglgaaDoor
