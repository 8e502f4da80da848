/- Pure: the lines of an outline, as both sides cut and read them. -/
import Derived.Lib.SplitLaws
import Derived.Lib.Strings
import Derived.Lib.TrimByte
import Derived.Lib.Hide
namespace Go.Proofs.YtfpiannnggkdiaaDoor

/-! ### Lines that a line feed ends, and what is left -/
def linesL : List UInt8 → List (List UInt8) × List UInt8
  | [] => ([], [])
  | c :: l => if c = 10 then ([] :: (linesL l).1, (linesL l).2) else
    match (linesL l).1 with
    | [] => ([], c :: (linesL l).2)
    | p :: ps => ((c :: p) :: ps, (linesL l).2)

theorem lines_none : ∀ l : List UInt8, (∀ c ∈ l, c ≠ 10) → linesL l = ([], l)
  | [], _ => rfl
  | c :: l, h => by
    have ih := lines_none l (fun x hx => h x (List.mem_cons_of_mem _ hx))
    have hc : c ≠ 10 := h c List.mem_cons_self
    unfold linesL
    rw [if_neg hc, ih]
theorem lines_hit : ∀ (a b : List UInt8), (∀ c ∈ a, c ≠ 10) → linesL (a ++ 10 :: b) = (a :: (linesL b).1, (linesL b).2)
  | [], b, _ => by
    show linesL (10 :: b) = _
    rw [linesL, if_pos rfl]
  | c :: a, b, h => by
    have ih := lines_hit a b (fun x hx => h x (List.mem_cons_of_mem _ hx))
    have hc : c ≠ 10 := h c List.mem_cons_self
    show linesL (c :: (a ++ 10 :: b)) = _
    rw [linesL, if_neg hc, ih]
theorem lines_len : ∀ l : List UInt8, (linesL l).1.length ≤ l.length
  | [] => Nat.le_refl _
  | c :: l => by
    have ih := lines_len l
    unfold linesL
    split
    · simpa using ih
    · cases h : (linesL l).1 with
      | nil => simp
      | cons p ps => rw [h] at ih; simp at ih ⊢; omega
theorem lines_piece : ∀ (l : List UInt8), ∀ p ∈ (linesL l).1, p.length ≤ l.length
  | [], p, hp => by cases hp
  | c :: l, p, hp => by
    have ih := lines_piece l
    unfold linesL at hp
    split at hp
    · rcases List.mem_cons.1 hp with rfl | h
      · simp
      · have := ih p h; simp; omega
    · cases h : (linesL l).1 with
      | nil => rw [h] at hp; cases hp
      | cons q ps =>
        rw [h] at hp ih
        rcases List.mem_cons.1 hp with rfl | h2
        · have := ih q List.mem_cons_self; simp; omega
        · have := ih p (List.mem_cons_of_mem _ h2); simp; omega
theorem lines_end : ∀ l : List UInt8, linesL (l ++ [10]) = ((linesL l).1 ++ [(linesL l).2], [])
  | [] => rfl
  | c :: l => by
    have ih := lines_end l
    show linesL (c :: (l ++ [10])) = _
    rw [linesL, ih]
    split
    · rename_i hc
      rw [linesL, if_pos hc]
      rfl
    · rename_i hc
      rw [linesL, if_neg hc]
      cases h : (linesL l).1 with
      | nil => rfl
      | cons p ps => rfl
theorem lines_open : ∀ l : List UInt8, l ≠ [] → l.getLast? ≠ some 10 → (linesL l).2 ≠ []
  | [], h, _ => absurd rfl h
  | [c], _, h => by
    have hc : c ≠ 10 := by rintro rfl; exact h rfl
    simp [linesL, if_neg hc]
  | c :: d :: l, _, h => by
    have ih := lines_open (d :: l) (by simp) (by simpa using h)
    rw [linesL]
    split
    · exact ih
    · cases h2 : (linesL (d :: l)).1 with
      | nil => simp
      | cons p ps => exact ih

/-! ### A line -/
def spL (l : List UInt8) : Nat := l.length - (Lib.trimLeftB l 32).length
def lineOk (l : List UInt8) : Bool := Lib.hasPrefix (Lib.trimLeftB l 32) [45, 32] && decide (spL l % 2 = 0)
structure Ln where
  depth : Nat
  text : ByteArray
instance : Inhabited Ln := ⟨⟨0, ⟨#[]⟩⟩⟩
def lnOf (l : List UInt8) : Ln := ⟨spL l / 2, ⟨(Lib.trimPrefix (Lib.trimLeftB l 32) [45, 32]).toArray⟩⟩
theorem trim_len (l : List UInt8) : (Lib.trimLeftB l 32).length ≤ l.length := by
  unfold Lib.trimLeftB
  exact (List.dropWhile_sublist _).length_le
theorem spL_le (l : List UInt8) : spL l ≤ l.length := by unfold spL; omega
theorem lnOf_depth (l : List UInt8) : (lnOf l).depth ≤ l.length := by
  have := spL_le l
  show spL l / 2 ≤ _
  omega
theorem prefix_len (l p : List UInt8) : (Lib.trimPrefix l p).length ≤ l.length := by
  unfold Lib.trimPrefix
  split
  · simp
  · exact Nat.le_refl _
theorem lnOf_text (l : List UInt8) : (lnOf l).text.size ≤ l.length := by
  have h := prefix_len (Lib.trimLeftB l 32) [45, 32]
  have h2 := trim_len l
  have e : (lnOf l).text.size = (Lib.trimPrefix (Lib.trimLeftB l 32) [45, 32]).length := by simp [lnOf, ByteArray.size]
  omega

/-- Are the lines of their form, where the first one can be d deep? -/
def okLns : Nat → List (List UInt8) → Bool
  | _, [] => true
  | d, p :: ps => lineOk p && decide ((lnOf p).depth ≤ d) && okLns ((lnOf p).depth + 1) ps
theorem okLns_cons (d : Nat) (p : List UInt8) (ps : List (List UInt8)) : okLns d (p :: ps) = (lineOk p && decide ((lnOf p).depth ≤ d) && okLns ((lnOf p).depth + 1) ps) := rfl

/-- What of a list of lines goes on at the head of a loop. -/
structure LnAt (P : List (List UInt8)) (j d : Nat) : Prop where
  le : j ≤ P.length
  ok : okLns 0 P = okLns d (P.drop j)
theorem LnAt.zero (P : List (List UInt8)) : LnAt P 0 0 := ⟨Nat.zero_le _, rfl⟩
theorem LnAt.next {P : List (List UInt8)} {j d : Nat} (h : LnAt P j d) (hj : j < P.length) (h1 : lineOk P[j] = true) (h2 : (lnOf P[j]).depth ≤ d) : LnAt P (j + 1) ((lnOf P[j]).depth + 1) := by
  refine ⟨hj, ?_⟩
  rw [h.ok, List.drop_eq_getElem_cons hj, okLns_cons, h1, decide_eq_true h2]
  rfl
theorem LnAt.bad {P : List (List UInt8)} {j d : Nat} (h : LnAt P j d) (hj : j < P.length) (h1 : lineOk P[j] = false ∨ d < (lnOf P[j]).depth) : okLns 0 P = false := by
  rw [h.ok, List.drop_eq_getElem_cons hj, okLns_cons]
  rcases h1 with h1 | h1
  · rw [h1]; rfl
  · rw [decide_eq_false (by omega), Bool.and_false]; rfl
theorem LnAt.end_ {P : List (List UInt8)} {j d : Nat} (h : LnAt P j d) (hj : j = P.length) : okLns 0 P = true := by
  rw [h.ok, hj, List.drop_length]; rfl

/-- The whole string: is it of its form? -/
def synOk (s : ByteArray) : Bool := okLns 0 (linesL s.data.toList).1 && (linesL s.data.toList).2.isEmpty
def lnsOf (s : ByteArray) : List Ln := (linesL s.data.toList).1.map lnOf
theorem lns_len (s : ByteArray) : (lnsOf s).length ≤ s.size := by
  have h := lines_len s.data.toList
  have e : s.size = s.data.toList.length := by rw [Array.length_toList]; rfl
  unfold lnsOf
  rw [List.length_map]
  omega
theorem lns_text (s : ByteArray) : ∀ x ∈ lnsOf s, x.text.size ≤ s.size := by
  intro x hx
  obtain ⟨p, hp, rfl⟩ := List.mem_map.1 hx
  have h := lines_piece s.data.toList p hp
  have h2 := lnOf_text p
  have e : s.size = s.data.toList.length := by rw [Array.length_toList]; rfl
  omega
theorem lns_depth (s : ByteArray) : ∀ x ∈ lnsOf s, x.depth ≤ s.size := by
  intro x hx
  obtain ⟨p, hp, rfl⟩ := List.mem_map.1 hx
  have h := lines_piece s.data.toList p hp
  have h2 := lnOf_depth p
  have e : s.size = s.data.toList.length := by rw [Array.length_toList]; rfl
  omega

/-! ### Cut at a line feed -/
theorem index_ten : ∀ l : List UInt8, (Lib.index l [10] = -1 ∧ ∀ c ∈ l, c ≠ 10) ∨ ∃ a b, l = a ++ 10 :: b ∧ (∀ c ∈ a, c ≠ 10) ∧ Lib.index l [10] = a.length
  | [] => .inl ⟨rfl, (fun c hc => by cases hc)⟩
  | c :: l => by
    by_cases hc : c = 10
    · subst hc
      refine .inr ⟨[], l, rfl, (fun c hc => by cases hc), ?_⟩
      unfold Lib.index
      rw [if_pos (by simp)]
      rfl
    · have hp : ¬ ([10] : List UInt8).isPrefixOf (c :: l) = true := by
        simp only [List.isPrefixOf, Bool.and_true, beq_iff_eq]
        exact fun e => hc e.symm
      rcases index_ten l with ⟨h1, h2⟩ | ⟨a, b, h1, h2, h3⟩
      · refine .inl ⟨?_, ?_⟩
        · unfold Lib.index
          rw [if_neg hp, h1]; rfl
        · intro x hx
          rcases List.mem_cons.1 hx with rfl | hx
          · exact hc
          · exact h2 x hx
      · refine .inr ⟨c :: a, b, by rw [h1]; rfl, ?_, ?_⟩
        · intro x hx
          rcases List.mem_cons.1 hx with rfl | hx
          · exact hc
          · exact h2 x hx
        · unfold Lib.index
          rw [if_neg hp, h3, if_neg (by simp)]
          simp
theorem cut_ten (l : List UInt8) : (Lib.cut l [10] = (l, [], false) ∧ linesL l = ([], l)) ∨
    ∃ a b, Lib.cut l [10] = (a, b, true) ∧ linesL l = (a :: (linesL b).1, (linesL b).2) ∧ b.length < l.length ∧ l = a ++ 10 :: b := by
  rcases index_ten l with ⟨h1, h2⟩ | ⟨a, b, h1, h2, h3⟩
  · refine .inl ⟨?_, lines_none l h2⟩
    unfold Lib.cut
    rw [h1, if_neg (by decide)]
  · refine .inr ⟨a, b, ?_, by rw [h1]; exact lines_hit a b h2, by rw [h1]; simp; omega, h1⟩
    unfold Lib.cut
    rw [h3, if_pos (by omega), h1]
    simp

/-! ### The reference's pieces -/
theorem sizeL (s : ByteArray) : s.size = s.data.toList.length := by rw [Array.length_toList]; rfl
theorem extract_L (s : ByteArray) (a b : Nat) : (s.extract a b).data.toList = (s.data.toList.drop a).take (b - a) := by
  rw [Lib.extract_eq]
theorem split_ten : ∀ (n k : Nat) (s : ByteArray), s.data.toList.length ≤ n → (linesL s.data.toList).1.length = k →
    (Lib.splitB ⟨#[10]⟩ 0 k s).map (fun x => x.data.toList) = (linesL s.data.toList).1 ++ [(linesL s.data.toList).2]
  | n, 0, s, _, hk => by
    have h : (linesL s.data.toList).1 = [] := List.eq_nil_of_length_eq_zero hk
    rcases cut_ten s.data.toList with ⟨_, h2⟩ | ⟨a, b, _, h2, _⟩
    · rw [h2]; rfl
    · rw [h2] at h; cases h
  | 0, k + 1, s, hn, hk => by
    have h : s.data.toList = [] := List.eq_nil_of_length_eq_zero (by omega)
    rw [h] at hk; cases hk
  | n + 1, k + 1, s, hn, hk => by
    rcases index_ten s.data.toList with ⟨h1, h2⟩ | ⟨a, b, h1, h2, h3⟩
    · rw [lines_none _ h2] at hk; cases hk
    · have hl := lines_hit a b h2
      rw [← h1] at hl
      have hix : Lib.indexB s ⟨#[10]⟩ = (a.length : Nat) := h3
      rw [Lib.splitB_hit _ _ _ _ a.length hix]
      have e1 : (s.extract 0 (a.length + 0)).data.toList = a := by rw [extract_L, h1]; simp
      have e2 : (s.extract (a.length + (⟨#[10]⟩ : ByteArray).size) s.size).data.toList = b := by
        rw [extract_L, h1, sizeL, h1]
        show (List.drop (a.length + 1) _).take _ = _
        rw [show a.length + 1 = (a ++ [10]).length by simp, show a ++ 10 :: b = (a ++ [10]) ++ b by simp, List.drop_left, List.take_of_length_le (by show b.length ≤ (a ++ [10] ++ b).length - (a.length + 1); simp; omega)]
      have ih := split_ten n k (s.extract (a.length + (⟨#[10]⟩ : ByteArray).size) s.size) (by rw [e2]; rw [h1] at hn; simp at hn; omega) (by rw [e2]; rw [hl] at hk; simpa using hk)
      rw [List.map_cons, ih, e1, e2, hl]
      rfl
theorem count_ten : ∀ (n : Nat) (s : ByteArray), s.data.toList.length ≤ n → Lib.countB s ⟨#[10]⟩ = (linesL s.data.toList).1.length
  | n, s, hn => by
    rcases index_ten s.data.toList with ⟨h1, h2⟩ | ⟨a, b, h1, h2, h3⟩
    · rw [Lib.countB_miss s _ h1, lines_none _ h2]; rfl
    · have hl := lines_hit a b h2
      rw [← h1] at hl
      have hix : Lib.indexB s ⟨#[10]⟩ = (a.length : Nat) := h3
      have e2 : (s.extract (a.length + (⟨#[10]⟩ : ByteArray).size) s.size).data.toList = b := by
        rw [extract_L, h1, sizeL, h1]
        show (List.drop (a.length + 1) _).take _ = _
        rw [show a.length + 1 = (a ++ [10]).length by simp, show a ++ 10 :: b = (a ++ [10]) ++ b by simp, List.drop_left, List.take_of_length_le (by show b.length ≤ (a ++ [10] ++ b).length - (a.length + 1); simp; omega)]
      rw [Lib.countB_hit s _ a.length (by decide) hix]
      match n, hn with
      | 0, hn => rw [h1] at hn; simp at hn
      | n + 1, hn =>
        rw [count_ten n _ (by rw [e2]; rw [h1] at hn; simp at hn; omega), e2, hl]
        simp; omega
theorem pieces_ten (s : ByteArray) : (Lib.splitB ⟨#[10]⟩ 0 (Lib.countB s ⟨#[10]⟩) s).map (fun x => x.data.toList) = (linesL s.data.toList).1 ++ [(linesL s.data.toList).2] :=
  split_ten _ _ s (Nat.le_refl _) (count_ten _ s (Nat.le_refl _)).symm
end Go.Proofs.YtfpiannnggkdiaaDoor
