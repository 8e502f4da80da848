/- Pure: where a link ends, as the reference reads it. -/
import Derived.Test.YticdapkljbillaaGreatDoorTzB
namespace Go.Proofs.YticdapkljbillaaGreatDoor
open Go.RowKit

theorem bAt_list (s : ByteArray) (i : Nat) : bAt s i = match s.data.toList[i]? with | some c => (c.toNat : Int) | none => -1 := by
  unfold bAt
  by_cases h : i < s.size
  · rw [dif_pos h, Lib.data_getElem? s i h]
  · rw [dif_neg h, List.getElem?_eq_none (by rw [← Lib.size_eq]; omega)]
theorem bAt_some {s : ByteArray} {i : Nat} {c : UInt8} : bAt s i = (c.toNat : Int) ↔ s.data.toList[i]? = some c := by
  rw [bAt_list]
  cases h : s.data.toList[i]? with
  | none => simp
  | some d =>
    simp only [Option.some.injEq]
    rw [← UInt8.toNat_inj]; omega
theorem bAt_range (s : ByteArray) (i : Nat) : (i < s.size → 0 ≤ bAt s i ∧ bAt s i ≤ 255) ∧ (¬ i < s.size → bAt s i = -1) := by
  unfold bAt
  constructor
  · intro h; rw [dif_pos h]; have := (s[i]'h).toNat_lt; omega
  · intro h; rw [dif_neg h]
theorem bAt_cut {s : ByteArray} {a b i : Nat} (h : a + i < b) (hb : b ≤ s.size) : bAt (s.extract a b) i = bAt s (a + i) := by
  have h1 : i < (s.extract a b).size := by rw [ByteArray.size_extract]; omega
  rw [bAt_lt h1, bAt_lt (by omega : a + i < s.size), ByteArray.getElem_extract]
theorem pre_list (s m : ByteArray) (n : Nat) : pre s n m = m.data.toList.isPrefixOf (s.data.toList.drop n) := by
  unfold pre Lib.hasPrefix
  rw [Lib.extract_data, List.take_of_length_le (by rw [List.length_drop, ← Lib.size_eq]; omega)]
theorem pre_one {s : ByteArray} {n : Nat} {c : UInt8} : pre s n ⟨#[c]⟩ = true ↔ bAt s n = (c.toNat : Int) := by
  rw [pre_list, bAt_some]
  show ([c] : List UInt8).isPrefixOf _ = true ↔ _
  rw [← List.head?_drop]
  cases s.data.toList.drop n with
  | nil => simp
  | cons x l => simp; exact eq_comm
theorem pre_two {s : ByteArray} {n : Nat} {c d : UInt8} : pre s n ⟨#[c, d]⟩ = true ↔ bAt s n = (c.toNat : Int) ∧ bAt s (n + 1) = (d.toNat : Int) := by
  rw [pre_list, bAt_some, bAt_some]
  show ([c, d] : List UInt8).isPrefixOf _ = true ↔ _
  rw [← List.head?_drop, ← List.head?_drop, ← List.drop_drop]
  cases s.data.toList.drop n with
  | nil => simp
  | cons x l =>
    cases l with
    | nil => simp
    | cons y l => simp; constructor <;> (rintro ⟨h1, h2⟩; exact ⟨h1.symm, h2.symm⟩)

theorem takeWhile_all (cls : UInt8 → Bool) : ∀ (l : List UInt8) (i : Nat), i < (l.takeWhile cls).length → ∃ c, l[i]? = some c ∧ cls c = true
  | [], i, h => by simp at h
  | c :: l, i, h => by
    by_cases hc : cls c = true
    · rw [List.takeWhile_cons_of_pos hc] at h
      cases i with
      | zero => exact ⟨c, rfl, hc⟩
      | succ i =>
        obtain ⟨d, h1, h2⟩ := takeWhile_all cls l i (by simpa using h)
        exact ⟨d, by simpa using h1, h2⟩
    · rw [List.takeWhile_cons_of_neg hc] at h; simp at h
theorem takeWhile_stop (cls : UInt8 → Bool) : ∀ (l : List UInt8) (c : UInt8), l[(l.takeWhile cls).length]? = some c → cls c = false
  | [], c, h => by simp at h
  | d :: l, c, h => by
    by_cases hc : cls d = true
    · rw [List.takeWhile_cons_of_pos hc] at h
      exact takeWhile_stop cls l c (by simpa using h)
    · rw [List.takeWhile_cons_of_neg hc] at h
      simp at h; subst h; simpa using hc
theorem takeWhile_is (cls : UInt8 → Bool) : ∀ (l : List UInt8) (n : Nat), n ≤ l.length → (∀ i c, i < n → l[i]? = some c → cls c = true) → (∀ c, l[n]? = some c → cls c = false) → (l.takeWhile cls).length = n
  | [], n, h, _, _ => by simp at h; simp [h]
  | d :: l, 0, _, _, h2 => by rw [List.takeWhile_cons_of_neg (by simpa using h2 d rfl)]; rfl
  | d :: l, n + 1, h, h1, h2 => by
    have hd := h1 0 d (by omega) rfl
    rw [List.takeWhile_cons_of_pos hd, List.length_cons]
    rw [takeWhile_is cls l n (by simpa using h) (fun i c hi hc => h1 (i + 1) c (by omega) (by simpa using hc)) (fun c hc => h2 c (by simpa using hc))]
/-- What a run's bytes are, in numbers. -/
theorem runs_in {cls : UInt8 → Bool} {p : Int → Prop} (hp : ∀ c, cls c = true → p (c.toNat : Int)) {s : ByteArray} {a i : Nat} (h1 : a ≤ i) (h2 : i < runTo cls s a) : p (bAt s i) := by
  unfold runTo at h2
  obtain ⟨c, h3, h4⟩ := takeWhile_all cls (s.data.toList.drop a) (i - a) (by omega)
  rw [List.getElem?_drop, show a + (i - a) = i by omega] at h3
  rw [bAt_some.2 h3]
  exact hp c h4
theorem run_stop {cls : UInt8 → Bool} {p : Int → Prop} (hp : ∀ c, p (c.toNat : Int) → cls c = true) {s : ByteArray} {a : Nat} (h : runTo cls s a < s.size) : ¬ p (bAt s (runTo cls s a)) := by
  intro hq
  have h1 := Lib.data_getElem? s _ h
  rw [bAt_some.2 h1] at hq
  have h2 := takeWhile_stop cls (s.data.toList.drop a) (s[runTo cls s a]'h) (by rw [List.getElem?_drop]; exact h1)
  rw [hp _ hq] at h2
  cases h2
theorem run_is {cls : UInt8 → Bool} {p : Int → Prop} (hp : ∀ c, cls c = true ↔ p (c.toNat : Int)) {s : ByteArray} {a n : Nat} (h1 : a ≤ n) (h2 : n ≤ s.size) (hi : ∀ i, a ≤ i → i < n → p (bAt s i)) (hn : n < s.size → ¬ p (bAt s n)) : runTo cls s a = n := by
  unfold runTo
  rw [takeWhile_is cls (s.data.toList.drop a) (n - a) (by rw [List.length_drop, ← Lib.size_eq]; omega)]
  · omega
  · intro i c hin hc
    rw [List.getElem?_drop] at hc
    rw [hp, ← bAt_some.2 hc]
    exact hi _ (by omega) (by omega)
  · intro c hc
    rw [List.getElem?_drop, show a + (n - a) = n by omega] at hc
    cases h : cls c with
    | false => rfl
    | true =>
      rw [hp, ← bAt_some.2 hc] at h
      exact absurd h (hn (by have := (List.getElem?_eq_some_iff.1 hc).1; rw [← Lib.size_eq] at this; exact this))

def pTarget (n : Int) : Prop := 32 ≤ n ∧ n ≠ 91 ∧ n ≠ 93 ∧ n ≠ 124 ∧ n ≠ 96
def pShown (n : Int) : Prop := n ≠ 91 ∧ n ≠ 93
theorem cTarget_p (c : UInt8) : cTarget c = true ↔ pTarget (c.toNat : Int) := by unfold cTarget pTarget; rw [decide_eq_true_eq]
theorem cShown_p (c : UInt8) : cShown c = true ↔ pShown (c.toNat : Int) := by unfold cShown pShown; rw [decide_eq_true_eq]

/-- The first bracket. -/
def brk : ByteArray := ⟨#[91, 93]⟩
theorem brk_ascii : Ascii brk := by
  intro j b h
  rcases j with _ | _ | j
  all_goals simp [brk] at h
  all_goals (subst h; decide)
theorem noAny_of_indexAny (chars : List UInt8) : ∀ (l : List UInt8) (k : Nat), (Lib.indexAny l chars < 0 ∨ Lib.indexAny l chars = (k : Int)) → ∀ i c, (0 ≤ Lib.indexAny l chars → i < k) → l[i]? = some c → chars.contains c = false
  | [], k, _, i, c, _, hc => by simp at hc
  | d :: l, k, h, i, c, hi, hc => by
    unfold Lib.indexAny at h hi
    by_cases hd : chars.contains d = true
    · rw [if_pos hd] at h hi
      have := hi (Int.le_refl _)
      omega
    · rw [if_neg hd] at h hi
      cases i with
      | zero => simp at hc; subst hc; simpa using hd
      | succ i =>
        have hg := Lib.indexAny_ge chars l
        by_cases h1 : (Lib.indexAny l chars == -1) = true
        · rw [if_pos h1] at h hi
          have h2 : Lib.indexAny l chars = -1 := by simpa using h1
          exact noAny_of_indexAny chars l 0 (.inl (by omega)) i c (by intro h3; omega) (by simpa using hc)
        · rw [if_neg h1] at h hi
          have h2 : Lib.indexAny l chars ≠ -1 := by simpa using h1
          exact noAny_of_indexAny chars l (k - 1) (.inr (by omega)) i c (by intro h3; have := hi (by omega); omega) (by simpa using hc)
theorem indexAny_at (chars : List UInt8) : ∀ (l : List UInt8) (k : Nat), Lib.indexAny l chars = (k : Int) → ∃ c, l[k]? = some c ∧ chars.contains c = true
  | [], k, h => by simp [Lib.indexAny] at h
  | d :: l, k, h => by
    unfold Lib.indexAny at h
    by_cases hd : chars.contains d = true
    · rw [if_pos hd] at h
      have : k = 0 := by omega
      subst this
      exact ⟨d, rfl, hd⟩
    · rw [if_neg hd] at h
      have hg := Lib.indexAny_ge chars l
      by_cases h1 : (Lib.indexAny l chars == -1) = true
      · rw [if_pos h1] at h; omega
      · rw [if_neg h1] at h
        have h2 : Lib.indexAny l chars ≠ -1 := by simpa using h1
        obtain ⟨j, rfl⟩ : ∃ j, k = j + 1 := ⟨k - 1, by omega⟩
        obtain ⟨c, h2, h3⟩ := indexAny_at chars l j (by omega)
        exact ⟨c, by simpa using h2, h3⟩
theorem brk_mem (c : UInt8) : brk.data.toList.contains c = true ↔ ¬ pShown (c.toNat : Int) := by
  show ([91, 93] : List UInt8).contains c = true ↔ _
  unfold pShown
  simp only [List.contains_cons, List.contains_nil, Bool.or_false, Bool.or_eq_true, beq_iff_eq, ← UInt8.toNat_inj]
  rw [show (91 : UInt8).toNat = 91 from rfl, show (93 : UInt8).toNat = 93 from rfl]
  omega
/-- The first bracket from a place on, in numbers. -/
theorem brk_some {s : ByteArray} {b k : Nat} (hb : b ≤ s.size) (h : anyOf (s.extract b s.size) brk = (k : Int)) : b + k < s.size ∧ ¬ pShown (bAt s (b + k)) ∧ ∀ i, b ≤ i → i < b + k → pShown (bAt s i) := by
  unfold anyOf at h
  rw [Lib.extract_data, List.take_of_length_le (by rw [List.length_drop, ← Lib.size_eq]; omega)] at h
  obtain ⟨c, h1, h2⟩ := indexAny_at _ _ _ h
  rw [List.getElem?_drop] at h1
  have h3 := (List.getElem?_eq_some_iff.1 h1).1
  rw [← Lib.size_eq] at h3
  refine ⟨h3, by rw [bAt_some.2 h1]; exact (brk_mem c).1 h2, fun i hi1 hi2 => ?_⟩
  have h4 := Lib.data_getElem? s i (by omega)
  have h5 := noAny_of_indexAny brk.data.toList (s.data.toList.drop b) k (.inr h) (i - b) (s[i]'(by omega)) (by intro _; omega) (by rw [List.getElem?_drop, show b + (i - b) = i by omega]; exact h4)
  rw [bAt_some.2 h4]
  exact Classical.byContradiction fun hc => by rw [(brk_mem _).2 hc] at h5; cases h5
theorem brk_none {s : ByteArray} {b : Nat} (h : anyOf (s.extract b s.size) brk < 0) : ∀ i, b ≤ i → i < s.size → pShown (bAt s i) := by
  unfold anyOf at h
  rw [Lib.extract_data, List.take_of_length_le (by rw [List.length_drop, ← Lib.size_eq]; omega)] at h
  intro i hi1 hi2
  have h4 := Lib.data_getElem? s i hi2
  have h5 := noAny_of_indexAny brk.data.toList (s.data.toList.drop b) 0 (.inl h) (i - b) (s[i]'hi2) (by intro h3; omega) (by rw [List.getElem?_drop, show b + (i - b) = i by omega]; exact h4)
  rw [bAt_some.2 h4]
  exact Classical.byContradiction fun hc => by rw [(brk_mem _).2 hc] at h5; cases h5

theorem indexByte_not : ∀ (l : List UInt8) (x : UInt8) (k : Nat), (Lib.indexByte l x < 0 ∨ Lib.indexByte l x = (k : Int)) → ∀ i, (0 ≤ Lib.indexByte l x → i < k) → l[i]? ≠ some x
  | [], x, k, _, i, _ => by simp
  | d :: l, x, k, h, i, hi => by
    unfold Lib.indexByte at h hi
    by_cases hd : (d == x) = true
    · rw [if_pos hd] at h hi
      have := hi (Int.le_refl _)
      omega
    · rw [if_neg hd] at h hi
      cases i with
      | zero => simpa using hd
      | succ i =>
        have hg := Lib.indexByte_ge l x
        by_cases h1 : (Lib.indexByte l x == -1) = true
        · rw [if_pos h1] at h hi
          have h2 : Lib.indexByte l x = -1 := by simpa using h1
          have := indexByte_not l x 0 (.inl (by omega)) i (by intro h3; omega)
          simpa using this
        · rw [if_neg h1] at h hi
          have h2 : Lib.indexByte l x ≠ -1 := by simpa using h1
          have := indexByte_not l x (k - 1) (.inr (by omega)) i (by intro h3; have := hi (by omega); omega)
          simpa using this
/-- The first bar of a piece, in numbers. -/
theorem bar_some {s : ByteArray} {b m j : Nat} (hm : m ≤ s.size) (h : bar (s.extract b m) = (j : Int)) : b + j < m ∧ bAt s (b + j) = 124 ∧ ∀ i, b ≤ i → i < b + j → bAt s i ≠ 124 := by
  unfold bar at h
  have h1 := (Lib.indexByte_some h).1
  have h3 := (List.getElem?_eq_some_iff.1 h1).1
  rw [← Lib.size_eq, ByteArray.size_extract] at h3
  have h4 : b + j < m := by omega
  refine ⟨h4, ?_, fun i hi1 hi2 hc => ?_⟩
  · rw [← bAt_cut h4 hm]; exact bAt_some.2 h1
  · refine indexByte_not (s.extract b m).data.toList 124 j (.inr h) (i - b) (by intro _; omega) ?_
    rw [← bAt_some, bAt_cut (by omega) hm, show b + (i - b) = i by omega]
    exact hc
theorem bar_none {s : ByteArray} {b m : Nat} (hm : m ≤ s.size) (h : bar (s.extract b m) < 0) : ∀ i, b ≤ i → i < m → bAt s i ≠ 124 := by
  intro i hi1 hi2 hc
  unfold bar at h
  refine indexByte_not (s.extract b m).data.toList 124 0 (.inl h) (i - b) (by intro h3; omega) ?_
  rw [← bAt_some, bAt_cut (by omega) hm, show b + (i - b) = i by omega]
  exact hc

theorem eAfter_two {s : ByteArray} {n : Nat} : eAfter s n ⟨#[93, 93]⟩ = if bAt s n = 93 ∧ bAt s (n + 1) = 93 then n + 2 else 0 := by
  unfold eAfter
  have h := pre_two (s := s) (n := n) (c := 93) (d := 93)
  rw [show ((93 : UInt8).toNat : Int) = 93 from rfl] at h
  by_cases hp : bAt s n = 93 ∧ bAt s (n + 1) = 93
  · rw [if_pos hp, if_pos (h.2 hp)]; rfl
  · rw [if_neg hp, if_neg (fun e => hp (h.1 e))]
theorem isTgt_p {s : ByteArray} {b m : Nat} (hbm : b ≤ m) (hm : m ≤ s.size) (h : isTgt (s.extract b m) = true) : ∀ i, b ≤ i → i < m → pTarget (bAt s i) := by
  unfold isTgt at h
  rw [decide_eq_true_eq] at h
  obtain ⟨_, _, _, _, h5⟩ := h
  intro i h1 h2
  have hz : (s.extract b m).size = m - b := by rw [ByteArray.size_extract]; omega
  have := runs_in (p := pTarget) (fun c hc => (cTarget_p c).1 hc) (s := s.extract b m) (a := 0) (i := i - b) (Nat.zero_le _) (by rw [h5, hz]; omega)
  rw [bAt_cut (by omega) hm, show b + (i - b) = i by omega] at this
  exact this

/-- What the reference finds at two opening brackets: how far the first bracket is, what is before it. -/
def refLink (s : ByteArray) (a : Nat) : Option Nat :=
  if 0 ≤ anyOf (s.extract (a + 2) s.size) brk then
    let k := (anyOf (s.extract (a + 2) s.size) brk).toNat
    let t := s.extract (a + 2) (a + 2 + k)
    if pre s (a + 2 + k) ⟨#[93, 93]⟩ = true ∧ isTgt (cutL t) = true ∧ (bar t < 0 ∨ 0 < (cutR t).size) then some k else none
  else none

theorem lnk_none {s : ByteArray} {a : Nat} (hp : pre s a ⟨#[91, 91]⟩ = true) (ha : a < s.size) (h : anyOf (s.extract (a + 2) s.size) brk < 0) : lnkEnd s a = 0 := by
  have hz := pre_le hp (by omega)
  have hz2 : a + 2 ≤ s.size := hz
  have hno := brk_none h
  have hn := runTo_le (cls := cTarget) hz2
  have hm := runTo_le (cls := cShown) (s := s) (a := runTo cTarget s (a + 2) + 1)
  have hr := bAt_range s
  unfold lnkEnd
  rw [if_pos hp]
  split
  · split
    · rename_i h2 h3
      have h4 := pre_le h3 hn.2
      have hm2 := hm h4
      split
      · rfl
      · rw [eAfter_two]
        rw [if_neg]
        rintro ⟨h5, _⟩
        by_cases h6 : runTo cShown s (runTo cTarget s (a + 2) + 1) < s.size
        · have := hno _ (by omega) h6
          unfold pShown at this; omega
        · have := (hr (runTo cShown s (runTo cTarget s (a + 2) + 1))).2 h6; omega
    · rw [eAfter_two, if_neg]
      rintro ⟨h5, _⟩
      by_cases h6 : runTo cTarget s (a + 2) < s.size
      · have := hno _ (by omega) h6
        unfold pShown at this; omega
      · have := (hr (runTo cTarget s (a + 2))).2 h6; omega
  · rfl

theorem lnk_some {s : ByteArray} {a k : Nat} (hp : pre s a ⟨#[91, 91]⟩ = true) (ha : a < s.size) (h : anyOf (s.extract (a + 2) s.size) brk = (k : Int)) :
    lnkEnd s a = if pre s (a + 2 + k) ⟨#[93, 93]⟩ = true ∧ isTgt (cutL (s.extract (a + 2) (a + 2 + k))) = true ∧ (bar (s.extract (a + 2) (a + 2 + k)) < 0 ∨ 0 < (cutR (s.extract (a + 2) (a + 2 + k))).size) then a + k + 4 else 0 := by
  have hz := pre_le hp (by omega)
  have hz2 : a + 2 ≤ s.size := hz
  obtain ⟨m, hm⟩ : ∃ m, m = a + 2 + k := ⟨_, rfl⟩
  obtain ⟨b1, b2, b3⟩ := brk_some hz2 h
  rw [← hm] at b1 b2 b3 ⊢
  obtain ⟨n, hn⟩ : ∃ n, n = runTo cTarget s (a + 2) := ⟨_, rfl⟩
  have hle := runTo_le (cls := cTarget) hz2
  have hin := fun i h1 h2 => runs_in (p := pTarget) (fun c hc => (cTarget_p c).1 hc) (s := s) (a := a + 2) (i := i) h1 h2
  have hst := run_stop (p := pTarget) (fun c hc => (cTarget_p c).2 hc) (s := s) (a := a + 2)
  rw [← hn] at hle hin hst
  have hnm : n ≤ m := by
    refine Nat.le_of_not_lt fun hc => b2 ?_
    have := hin m (by omega) hc
    unfold pTarget at this; unfold pShown; omega
  have hbar1 := pre_one (s := s) (n := n) (c := 124)
  rw [show ((124 : UInt8).toNat : Int) = 124 from rfl] at hbar1
  have hend := pre_two (s := s) (n := m) (c := 93) (d := 93)
  rw [show ((93 : UInt8).toNat : Int) = 93 from rfl] at hend
  -- where a run of what may be shown ends
  have hsh : ∀ p, a + 2 ≤ p → p ≤ m → runTo cShown s p = m := fun p h1 h2 => run_is cShown_p h2 (by omega) (fun i hi1 hi2 => b3 i (by omega) hi2) (fun _ => b2)
  unfold lnkEnd
  rw [if_pos hp, ← hn]
  have hcut : ∀ j : Nat, bar (s.extract (a + 2) m) = (j : Int) → cutL (s.extract (a + 2) m) = s.extract (a + 2) (a + 2 + j) ∧ cutR (s.extract (a + 2) m) = s.extract (a + 2 + j + 1) m := by
    intro j hj
    have hb := (bar_some (by omega) hj).1
    unfold cutL cutR
    rw [if_pos (by omega), if_pos (by omega), hj, Int.toNat_natCast, ByteArray.extract_extract, ByteArray.extract_extract, ByteArray.size_extract]
    constructor <;> (congr 1; try omega)
  rcases Int.lt_or_le (bar (s.extract (a + 2) m)) 0 with hb | hb
  · -- no bar
    have hno := bar_none (by omega) hb
    have hL : cutL (s.extract (a + 2) m) = s.extract (a + 2) m := by unfold cutL; rw [if_neg (by omega)]
    rw [hL]
    have hnp : ¬ pre s n ⟨#[124]⟩ = true := by
      rw [hbar1]
      intro hc
      by_cases h1 : n < m
      · exact hno n (by omega) h1 hc
      · have : n = m := by omega
        subst this
        apply b2; unfold pShown; omega
    by_cases ht : isTgt (s.extract (a + 2) m) = true
    · have hall := isTgt_p (by omega) (by omega) ht
      have hnm2 : n = m := by
        refine Nat.le_antisymm hnm (Nat.le_of_not_lt fun hc => ?_)
        exact hst (by omega) (hall n (by omega) hc)
      rw [hnm2] at hnp ⊢
      rw [if_pos ht, if_neg hnp, eAfter_two]
      by_cases he : bAt s m = 93 ∧ bAt s (m + 1) = 93
      · rw [if_pos he, if_pos ⟨hend.2 he, ht, .inl hb⟩]; omega
      · rw [if_neg he, if_neg (fun h => he (hend.1 h.1))]
    · refine Eq.trans ?_ (if_neg (fun h => ht h.2.1)).symm
      split
      · rename_i ht2
        have hne : n ≠ m := fun e => by rw [e] at ht2; exact ht ht2
        first | rw [if_neg hnp, eAfter_two, if_neg] | rw [eAfter_two, if_neg]
        rintro ⟨h1, _⟩
        have := b3 n (by omega) (by omega)
        unfold pShown at this; omega
      · rfl
  · obtain ⟨j, hj⟩ := Int.eq_ofNat_of_zero_le hb
    obtain ⟨c1, c2, c3⟩ := bar_some (by omega) hj
    obtain ⟨e1, e2⟩ := hcut j hj
    rw [e1, e2]
    have hle2 : n ≤ a + 2 + j := by
      refine Nat.le_of_not_lt fun hc => ?_
      have := hin (a + 2 + j) (by omega) hc
      unfold pTarget at this; omega
    have hsz : (s.extract (a + 2 + j + 1) m).size = m - (a + 2 + j + 1) := by rw [ByteArray.size_extract]; omega
    rw [hsz]
    by_cases ht : isTgt (s.extract (a + 2) (a + 2 + j)) = true
    · have hall := isTgt_p (by omega) (by omega) ht
      have hnp : n = a + 2 + j := by
        refine Nat.le_antisymm hle2 (Nat.le_of_not_lt fun hc => ?_)
        exact hst (by omega) (hall n (by omega) hc)
      rw [hnp, if_pos ht, if_pos ((hnp ▸ hbar1).2 c2), hsh _ (by omega) (by omega)]
      by_cases hem : m = a + 2 + j + 1
      · rw [if_pos hem, if_neg]
        rintro ⟨_, _, h1 | h1⟩
        · omega
        · omega
      · rw [if_neg hem, eAfter_two]
        by_cases he : bAt s m = 93 ∧ bAt s (m + 1) = 93
        · rw [if_pos he, if_pos ⟨hend.2 he, ht, .inr (by omega)⟩]; omega
        · rw [if_neg he, if_neg (fun h => he (hend.1 h.1))]
    · refine Eq.trans ?_ (if_neg (fun h => ht h.2.1)).symm
      split
      · rename_i ht2
        have hne : n ≠ a + 2 + j := fun e => by rw [e] at ht2; exact ht ht2
        have hnp : ¬ pre s n ⟨#[124]⟩ = true := by
          rw [hbar1]; exact c3 n (by omega) (by omega)
        first | rw [if_neg hnp, eAfter_two, if_neg] | rw [eAfter_two, if_neg]
        rintro ⟨h1, _⟩
        have := b3 n (by omega) (by omega)
        unfold pShown at this; omega
      · rfl
end Go.Proofs.YticdapkljbillaaGreatDoor
