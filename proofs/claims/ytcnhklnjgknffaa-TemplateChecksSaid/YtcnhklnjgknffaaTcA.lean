/- Templates in plain words: bytes, names, fields, the scan. -/
import Derived.Lib.Strings
import Derived.Lib.Index
import Derived.Lib.IndexAny
import Derived.Lib.IndexBytes
import Derived.Lib.IndexMore
namespace Go.Proofs.Ytcnhklnjgknffaa
open Go

/-- The byte at a place of a list, -1 behind its end. -/
def lAt (l : List UInt8) (k : Nat) : Int := match l[k]? with | some b => (b.toNat : Int) | none => -1
/-- The byte at a place, -1 behind the end. -/
def bAt (s : ByteArray) (i : Nat) : Int := lAt s.data.toList i
theorem bAt_in {s : ByteArray} {i : Nat} (h : i < s.size) : bAt s i = (s[i].toNat : Int) := by
  unfold bAt lAt
  rw [Lib.data_getElem? s i h]
theorem bAt_out {s : ByteArray} {i : Nat} (h : s.size ≤ i) : bAt s i = -1 := by
  unfold bAt lAt
  rw [List.getElem?_eq_none (by rw [← Lib.size_eq]; exact h)]
theorem bAt_lt {s : ByteArray} {i : Nat} (h : bAt s i ≠ -1) : i < s.size := by
  refine Nat.lt_of_not_le fun g => h (bAt_out g)
theorem bAt_drop (s : ByteArray) (i k : Nat) : lAt (s.extract i s.size).data.toList k = bAt s (i + k) := by
  unfold bAt lAt
  rw [Lib.extract_to_end, List.getElem?_drop]
theorem toNat_beq (a : UInt8) (c : UInt8) : (c == a) = decide ((a.toNat : Int) = (c.toNat : Int)) := by
  rw [Bool.eq_iff_iff]
  simp only [beq_iff_eq, decide_eq_true_eq]
  constructor
  · intro h; rw [h]
  · intro h; exact UInt8.toNat_inj.1 (by omega)
theorem pfx1 (l : List UInt8) (c : UInt8) : [c].isPrefixOf l = decide (lAt l 0 = (c.toNat : Int)) := by
  rcases l with _ | ⟨a, l⟩
  · simp [lAt, List.isPrefixOf]
  · simp only [List.isPrefixOf, Bool.and_true, lAt, List.getElem?_cons_zero]
    exact toNat_beq a c
theorem pfx2 (l : List UInt8) (c d : UInt8) : [c, d].isPrefixOf l = decide (lAt l 0 = (c.toNat : Int) ∧ lAt l 1 = (d.toNat : Int)) := by
  rcases l with _ | ⟨a, _ | ⟨b, l⟩⟩
  · simp [lAt, List.isPrefixOf]
  · simp [lAt, List.isPrefixOf]
  · simp only [List.isPrefixOf, Bool.and_true, lAt, List.getElem?_cons_zero, List.getElem?_cons_succ]
    rw [toNat_beq a c, toNat_beq b d, Bool.eq_iff_iff]
    simp only [Bool.and_eq_true, decide_eq_true_eq]
    exact decide_eq_true_iff.symm
theorem pfx3 (l : List UInt8) (c d e : UInt8) : [c, d, e].isPrefixOf l = decide (lAt l 0 = (c.toNat : Int) ∧ lAt l 1 = (d.toNat : Int) ∧ lAt l 2 = (e.toNat : Int)) := by
  rcases l with _ | ⟨a, _ | ⟨b, _ | ⟨f, l⟩⟩⟩
  · simp [lAt, List.isPrefixOf]
  · simp [lAt, List.isPrefixOf]
  · simp [lAt, List.isPrefixOf]
  · simp only [List.isPrefixOf, Bool.and_true, lAt, List.getElem?_cons_zero, List.getElem?_cons_succ]
    rw [toNat_beq a c, toNat_beq b d, toNat_beq f e, Bool.eq_iff_iff]
    simp only [Bool.and_eq_true, decide_eq_true_eq]
    exact decide_eq_true_iff.symm
theorem has1 (s : ByteArray) (i : Nat) (c : UInt8) : Lib.hasPrefix (s.extract i s.size).data.toList [c] = decide (bAt s i = (c.toNat : Int)) := by
  unfold Lib.hasPrefix
  rw [pfx1, bAt_drop]; rfl
theorem has2 (s : ByteArray) (i : Nat) (c d : UInt8) : Lib.hasPrefix (s.extract i s.size).data.toList [c, d] = decide (bAt s i = (c.toNat : Int) ∧ bAt s (i + 1) = (d.toNat : Int)) := by
  unfold Lib.hasPrefix
  rw [pfx2, bAt_drop, bAt_drop]; rfl
theorem has3 (s : ByteArray) (i : Nat) (c d e : UInt8) : Lib.hasPrefix (s.extract i s.size).data.toList [c, d, e] = decide (bAt s i = (c.toNat : Int) ∧ bAt s (i + 1) = (d.toNat : Int) ∧ bAt s (i + 2) = (e.toNat : Int)) := by
  unfold Lib.hasPrefix
  rw [pfx3, bAt_drop, bAt_drop, bAt_drop]; rfl

/-! ### A field's name, and its other -/
def isNm (b : Int) : Bool := decide (97 ≤ b ∧ b ≤ 122) || decide (48 ≤ b ∧ b ≤ 57) || decide (b = 45)
def nmE (s : ByteArray) : Nat → Nat → Nat
  | 0, e => e
  | f + 1, e => if isNm (bAt s e) = true then nmE s f (e + 1) else e
theorem isNm_lt {s : ByteArray} {i : Nat} (h : isNm (bAt s i) = true) : i < s.size := bAt_lt (fun e => by rw [e] at h; revert h; decide)
theorem nmE_ge (s : ByteArray) : ∀ f e, e ≤ nmE s f e
  | 0, e => Nat.le_refl _
  | f + 1, e => by
    unfold nmE
    split
    · exact Nat.le_trans (Nat.le_succ e) (nmE_ge s f (e + 1))
    · exact Nat.le_refl _
theorem nmE_le (s : ByteArray) : ∀ f e, e ≤ s.size → nmE s f e ≤ s.size
  | 0, _, h => h
  | f + 1, e, h => by
    unfold nmE
    split
    · rename_i hn
      exact nmE_le s f (e + 1) (isNm_lt hn)
    · exact h
def nmEnd (s : ByteArray) (a : Nat) : Nat := nmE s 20 a
/-- Where the bytes of an other end that begins at a place. -/
def oEnd (s : ByteArray) (a : Nat) : Nat :=
  if Lib.indexAny (s.extract a s.size).data.toList [123, 125, 10] < 0 then s.size else a + (Lib.indexAny (s.extract a s.size).data.toList [123, 125, 10]).toNat
theorem indexAny_lt (chars : List UInt8) : ∀ l : List UInt8, Lib.indexAny l chars < 0 ∨ Lib.indexAny l chars < l.length
  | [] => .inl (by show (-1 : Int) < 0; decide)
  | b :: l => by
    unfold Lib.indexAny
    split
    · right; simp only [List.length_cons]; omega
    · split
      · left; decide
      · rcases indexAny_lt chars l with h | h
        · left
          rename_i hn
          have h2 := Lib.indexAny_ge chars l
          have : Lib.indexAny l chars = -1 := by omega
          rw [this] at hn
          exact absurd (by decide : ((-1 : Int) == -1) = true) hn
        · right; simp only [List.length_cons]; omega
theorem oEnd_le (s : ByteArray) (a : Nat) (h : a ≤ s.size) : oEnd s a ≤ s.size := by
  unfold oEnd
  split
  · exact Nat.le_refl _
  · rcases indexAny_lt [123, 125, 10] (s.extract a s.size).data.toList with h1 | h1
    · omega
    · rw [Lib.extract_to_end, List.length_drop, ← Lib.size_eq, ← Lib.extract_to_end] at h1
      omega
theorem oEnd_ge (s : ByteArray) (a : Nat) (h : a ≤ s.size) : a ≤ oEnd s a := by
  unfold oEnd
  split <;> omega
inductive FieldRes where
  | bad (p : Nat)
  | good (k e : Nat)
/-- Where the first brace of a field's end is to be. -/
def fEnd (s : ByteArray) (k : Nat) : Nat := if bAt s k = 124 then oEnd s (k + 1) else k
/-- A field, from behind its first two braces on: the end of its name and its own, or where something cannot be. -/
def fieldAt (s : ByteArray) (a : Nat) : FieldRes :=
  if nmEnd s a = a then .bad (nmEnd s a)
  else if bAt s (fEnd s (nmEnd s a)) ≠ 125 then .bad (fEnd s (nmEnd s a))
  else if bAt s (fEnd s (nmEnd s a) + 1) ≠ 125 then .bad (fEnd s (nmEnd s a) + 1)
  else .good (nmEnd s a) (fEnd s (nmEnd s a) + 2)

/-! ### The scan -/
inductive Res where
  | err (p : Nat)
  | ok (N : List (List UInt8))
inductive Scan (s : ByteArray) : Nat → List (List UInt8) → Res → Prop
  | stop {i N} : s.size ≤ i → Scan s i N (.ok N)
  | esc {i N R} : bAt s i = 123 → bAt s (i + 1) = 123 → bAt s (i + 2) = 123 → Scan s (i + 3) N R → Scan s i N R
  | bad {i N p} : bAt s i = 123 → bAt s (i + 1) = 123 → bAt s (i + 2) ≠ 123 → fieldAt s (i + 2) = .bad p → Scan s i N (.err p)
  | fld {i N k e R} : bAt s i = 123 → bAt s (i + 1) = 123 → bAt s (i + 2) ≠ 123 → fieldAt s (i + 2) = .good k e → Scan s e (N ++ [(s.extract (i + 2) k).data.toList]) R → Scan s i N R
  | one {i N R} : i < s.size → ¬ (bAt s i = 123 ∧ bAt s (i + 1) = 123) → Scan s (i + 1) N R → Scan s i N R
theorem Scan.unique {s : ByteArray} {i : Nat} {N : List (List UInt8)} {R R' : Res} (h : Scan s i N R) : Scan s i N R' → R = R' := by
  induction h with
  | stop h =>
    intro g
    cases g with
    | stop _ => rfl
    | esc a _ _ _ => rw [bAt_out h] at a; omega
    | bad a _ _ _ => rw [bAt_out h] at a; omega
    | fld a _ _ _ _ => rw [bAt_out h] at a; omega
    | one a _ _ => omega
  | esc a b c _ ih =>
    intro g
    cases g with
    | stop h => rw [bAt_out h] at a; omega
    | esc _ _ _ g => exact ih g
    | bad _ _ c' _ => exact absurd c c'
    | fld _ _ c' _ _ => exact absurd c c'
    | one _ n _ => exact absurd ⟨a, b⟩ n
  | bad a b c f =>
    intro g
    cases g with
    | stop h => rw [bAt_out h] at a; omega
    | esc _ _ c' _ => exact absurd c' c
    | bad _ _ _ f' => rw [f] at f'; injection f' with e; rw [e]
    | fld _ _ _ f' _ => rw [f] at f'; cases f'
    | one _ n _ => exact absurd ⟨a, b⟩ n
  | fld a b c f _ ih =>
    intro g
    cases g with
    | stop h => rw [bAt_out h] at a; omega
    | esc _ _ c' _ => exact absurd c' c
    | bad _ _ _ f' => rw [f] at f'; cases f'
    | fld _ _ _ f' g => rw [f] at f'; injection f' with e1 e2; subst e1 e2; exact ih g
    | one _ n _ => exact absurd ⟨a, b⟩ n
  | one a n _ ih =>
    intro g
    cases g with
    | stop h => omega
    | esc a' b' _ _ => exact absurd ⟨a', b'⟩ n
    | bad a' b' _ _ => exact absurd ⟨a', b'⟩ n
    | fld a' b' _ _ _ => exact absurd ⟨a', b'⟩ n
    | one _ _ g => exact ih g
/-- Over bytes at which no two braces begin. -/
theorem Scan.skip {s : ByteArray} {N : List (List UInt8)} {R : Res} : ∀ (k i : Nat), i + k ≤ s.size → (∀ j, j < k → ¬ (bAt s (i + j) = 123 ∧ bAt s (i + j + 1) = 123)) → Scan s (i + k) N R → Scan s i N R
  | 0, _, _, _, h => h
  | k + 1, i, hk, hn, h => by
    refine .one (by omega) (hn 0 (by omega)) (Scan.skip k (i + 1) (by omega) (fun j hj => ?_) (by rw [show i + 1 + k = i + (k + 1) by omega]; exact h))
    have := hn (j + 1) (by omega)
    rw [show i + 1 + j = i + (j + 1) by omega]
    exact this
/-- What strings.Index of two braces says. -/
theorem index_braces (s : ByteArray) (i : Nat) (hi : i ≤ s.size) :
    (Lib.index (s.extract i s.size).data.toList [123, 123] = -1 ∧ ∀ j, ¬ (bAt s (i + j) = 123 ∧ bAt s (i + j + 1) = 123)) ∨
    (∃ k : Nat, Lib.index (s.extract i s.size).data.toList [123, 123] = k ∧ i + k + 2 ≤ s.size ∧ bAt s (i + k) = 123 ∧ bAt s (i + k + 1) = 123 ∧ ∀ j, j < k → ¬ (bAt s (i + j) = 123 ∧ bAt s (i + j + 1) = 123)) := by
  have hocc : ∀ j, Lib.occAt (s.extract i s.size).data.toList [123, 123] j = decide (bAt s (i + j) = 123 ∧ bAt s (i + j + 1) = 123) := by
    intro j
    unfold Lib.occAt
    rw [pfx2, Lib.extract_to_end, List.drop_drop, ← Lib.extract_to_end, bAt_drop, bAt_drop]
    rfl
  rcases Lib.index_spec (s.extract i s.size).data.toList [123, 123] with ⟨h1, h2⟩ | ⟨k, h1, h2, h3, h4⟩
  · refine .inl ⟨h1, fun j hj => ?_⟩
    by_cases hle : j ≤ (s.extract i s.size).data.toList.length
    · have := h2 j hle
      rw [hocc j, decide_eq_false_iff_not] at this
      exact this hj
    · rw [Lib.extract_to_end, List.length_drop, ← Lib.size_eq] at hle
      have h5 := hj.1
      rw [bAt_out (by omega)] at h5
      omega
  · rw [hocc k, decide_eq_true_eq] at h3
    have h5 := bAt_lt (s := s) (i := i + k + 1) (by rw [h3.2]; decide)
    exact .inr ⟨k, h1, by omega, h3.1, h3.2, fun j hj hb => by
      have := h4 j hj
      rw [hocc j, decide_eq_false_iff_not] at this
      exact this hb⟩
theorem fEnd_le {s : ByteArray} {k : Nat} (h : k ≤ s.size) : fEnd s k ≤ s.size := by
  unfold fEnd
  split
  · rename_i h1
    exact oEnd_le s _ (bAt_lt (by rw [h1]; decide))
  · exact h
theorem fEnd_ge {s : ByteArray} {k : Nat} (h : k ≤ s.size) : k ≤ fEnd s k := by
  unfold fEnd
  split
  · rename_i h1
    have := oEnd_ge s (k + 1) (bAt_lt (s := s) (i := k) (by rw [h1]; decide))
    omega
  · exact Nat.le_refl _
/-- A good field lies within the string. -/
theorem field_good {s : ByteArray} {a k e : Nat} (h : a ≤ s.size) (hg : fieldAt s a = .good k e) : a < k ∧ k ≤ s.size ∧ k + 2 ≤ e ∧ e ≤ s.size ∧ k = nmEnd s a ∧ e = fEnd s k + 2 ∧ bAt s (fEnd s k) = 125 ∧ bAt s (fEnd s k + 1) = 125 := by
  unfold fieldAt at hg
  split at hg
  · cases hg
  · rename_i h0
    split at hg
    · cases hg
    · rename_i h1
      split at hg
      · cases hg
      · rename_i h2
        injection hg with e1 e2
        subst e1 e2
        have h1 := Classical.not_not.1 h1
        have h2 := Classical.not_not.1 h2
        have q1 := nmE_ge s 20 a
        have q2 := nmE_le s 20 a h
        have q3 := fEnd_ge q2
        have q4 := bAt_lt (s := s) (i := fEnd s (nmEnd s a) + 1) (by rw [h2]; decide)
        unfold nmEnd at *
        exact ⟨by omega, q2, by omega, by omega, rfl, rfl, h1, h2⟩
/-- CheckTemplate's position and error. -/
def tcP : Res → Int | .err p => p | .ok _ => 0
def tcE : Res → Int | .err _ => 8 | .ok N => if 40 < N.length then 4 else 0
end Go.Proofs.Ytcnhklnjgknffaa
