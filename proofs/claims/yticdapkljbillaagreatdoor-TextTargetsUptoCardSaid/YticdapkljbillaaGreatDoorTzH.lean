/- Pure: rows of spans in memory, and what is known at each round of the reference's second loop. -/
import Derived.Test.YticdapkljbillaaGreatDoorTzG
namespace Go.Proofs.YticdapkljbillaaGreatDoor
open Go.RowKit

theorem rtoksF_len (s : ByteArray) : ∀ (n a : Nat), (rtoksF s n a).length ≤ n
  | 0, _ => by simp [rtoksF]
  | n + 1, a => by
    unfold rtoksF
    split
    · have := rtoksF_len s n (refTok s a).to_
      simp; omega
    · simp
theorem rtoks_len (s : ByteArray) : (rtoks s).length ≤ s.size := rtoksF_len s s.size 0
theorem rtoks_zero (s : ByteArray) : rtoksAt s 0 = rtoks s := rfl

/-- After j tokens. -/
structure Mid (s : ByteArray) (j : Nat) (st : SpSt) (a : Nat) : Prop where
  same : Same s a (pairsOf (rtoks s)) st (((rtoks s).take j).foldl (refStep (pairsOf (rtoks s))) ([], 0))
  rest : rtoksAt s a = (rtoks s).drop j
  le : a ≤ s.size
  seen : (((rtoks s).take j).foldl (refStep (pairsOf (rtoks s))) ([], 0)).2 + bolds (rtoksAt s a) ≤ pairsOf (rtoks s) + 1
theorem mid_all (s : ByteArray) : ∀ j, j ≤ (rtoks s).length → ∃ st a, Mid s j st a
  | 0, _ => ⟨⟨[], 0, 0⟩, 0, ⟨⟨Nat.le_refl _, rfl, fun z hz => (by cases hz), by simp⟩, rfl, Nat.zero_le _, by
      rw [rtoks_zero]; simp only [List.take_zero, List.foldl_nil]; unfold pairsOf; omega⟩⟩
  | j + 1, h => by
    obtain ⟨st, a, hm⟩ := mid_all s j (by omega)
    have he : pairsOf (rtoks s) % 2 = 0 := by unfold pairsOf; omega
    have hp : partnersOf s = pairsOf (rtoks s) := (pairs_eq s).symm
    have ha : a < s.size := by
      refine Nat.lt_of_not_le fun hc => ?_
      have h1 := hm.rest
      rw [rtoksAt_end (by omega)] at h1
      have := congrArg List.length h1
      rw [List.length_drop] at this; simp at this; omega
    have hl := refTok_lt ha
    have h1 := hm.rest
    rw [rtoksAt_step ha, List.drop_eq_getElem_cons (by omega)] at h1
    obtain ⟨h2, h3⟩ := List.cons.inj h1
    have hb := hm.seen
    rw [rtoksAt_step ha, bolds_cons] at hb
    have htake : (rtoks s).take (j + 1) = (rtoks s).take j ++ [refTok s a] := by
      rw [List.take_succ_eq_append_getElem (by omega), h2]
    have hfold : ((rtoks s).take (j + 1)).foldl (refStep (pairsOf (rtoks s))) ([], 0) = refStep (pairsOf (rtoks s)) (((rtoks s).take j).foldl (refStep (pairsOf (rtoks s))) ([], 0)) (refTok s a) := by
      rw [htake, List.foldl_append]; rfl
    have hsame := hm.same
    obtain ⟨r, hr⟩ : ∃ r, r = ((rtoks s).take j).foldl (refStep (pairsOf (rtoks s))) ([], 0) := ⟨_, rfl⟩
    rw [← hr] at hfold hsame hb
    have hs2 : (refStep (pairsOf (rtoks s)) r (refTok s a)).2 = if (refTok s a).kind = 7 then r.2 + 1 else r.2 := rfl
    cases hk : firstK (hit s a) 6 0 with
    | none =>
      have hto : (refTok s a).to_ = a + 1 := by rw [refTok_none hk]; rfl
      have hk1 : (refTok s a).kind = 1 := by rw [refTok_none hk]; rfl
      rw [if_neg (by omega)] at hb
      refine ⟨st, a + 1, ⟨by rw [hfold]; exact same_none hsame ha hk (by omega) he, by rw [← hto]; exact h3, by omega, ?_⟩⟩
      rw [hto] at hb
      rw [hfold, hs2, if_neg (by omega)]; omega
    | some k =>
      have h6 := (firstK_hit hk).2
      have hto : (refTok s a).to_ = tokEnd s a k := by rw [refTok_hit hk]; exact (spOf_to _ _).1
      have hkk : (refTok s a).kind = k + 2 := by rw [refTok_hit hk]; exact spOf_kind _ _ h6
      refine ⟨_, tokEnd s a k, ⟨by rw [hfold]; exact same_tok hsame ha hk (by omega) (fun h5 => by subst h5; rw [if_pos (by omega)] at hb; omega) he hp, by rw [← hto]; exact h3, by omega, ?_⟩⟩
      rw [hto] at hb
      rw [hfold, hs2]
      by_cases h7 : (refTok s a).kind = 7
      · rw [if_pos h7] at hb ⊢; omega
      · rw [if_neg h7] at hb ⊢; omega

theorem cut_size {s : ByteArray} {b c : Nat} (h : c ≤ s.size) : (s.extract b c).size ≤ s.size := by rw [ByteArray.size_extract]; omega
theorem spOf_text {s : ByteArray} {t : Tok} (h : t.to_ ≤ s.size) : (spOf s t).text.size ≤ s.size ∧ (spOf s t).shw.size ≤ s.size ∧ (spOf s t).id ≤ 1000000 := by
  have z : (⟨#[]⟩ : ByteArray).size ≤ s.size := Nat.zero_le _
  have c1 : (s.extract (t.from_ + 1) t.to_).size ≤ s.size := cut_size h
  have c2 : (s.extract (t.from_ + 1) (t.to_ - 1)).size ≤ s.size := cut_size (by omega)
  have c3 : (s.extract (t.from_ + 2) (t.to_ - 2)).size ≤ s.size := cut_size (by omega)
  have c4 : (s.extract t.from_ t.to_).size ≤ s.size := cut_size h
  have c5 := cut_sizes (s.extract (t.from_ + 2) (t.to_ - 2))
  have c6 := refIdN_le (s.extract (t.from_ + 2) (t.to_ - 2))
  unfold spOf
  by_cases h0 : t.kind = 0
  · rw [if_pos h0]; exact ⟨c1, z, Nat.zero_le _⟩
  rw [if_neg h0]
  by_cases h1 : t.kind = 1
  · rw [if_pos h1]; exact ⟨c2, z, Nat.zero_le _⟩
  rw [if_neg h1]
  by_cases h2 : t.kind = 2
  · rw [if_pos h2]; exact ⟨Nat.le_trans c5.1 c3, Nat.le_trans c5.2 c3, Nat.zero_le _⟩
  rw [if_neg h2]
  by_cases h3 : t.kind = 3
  · rw [if_pos h3]; exact ⟨c3, z, c6⟩
  rw [if_neg h3]
  by_cases h4 : t.kind = 4
  · rw [if_pos h4]; exact ⟨c1, z, Nat.zero_le _⟩
  rw [if_neg h4]
  exact ⟨c4, z, Nat.zero_le _⟩
/-- What a token is of. -/
theorem refTok_text {s : ByteArray} {a : Nat} (ha : a < s.size) : (refTok s a).text.size ≤ s.size ∧ (refTok s a).shw.size ≤ s.size ∧ (refTok s a).id ≤ 1000000 ∧ (refTok s a).kind ≤ 7 := by
  cases h : firstK (hit s a) 6 0 with
  | none => rw [refTok_none h]; exact ⟨cut_size (by omega), Nat.zero_le _, Nat.zero_le _, by show 1 ≤ 7; omega⟩
  | some k =>
    have hle := tokEnd_le (k := k) ha
    have h6 := (firstK_hit h).2
    rw [refTok_hit h]
    obtain ⟨h1, h2, h3⟩ := spOf_text (s := s) (t := ⟨k, a, tokEnd s a k⟩) hle
    refine ⟨h1, h2, h3, ?_⟩
    rw [spOf_kind _ _ h6]; show k + 2 ≤ 7; omega
/-- The j-th token. -/
theorem rtok_at {s : ByteArray} {j : Nat} (h : j < (rtoks s).length) : ∃ a, a < s.size ∧ (rtoks s)[j] = refTok s a := by
  obtain ⟨st, a, hm⟩ := mid_all s j (by omega)
  have h1 := hm.rest
  have ha : a < s.size := by
    refine Nat.lt_of_not_le fun hc => ?_
    rw [rtoksAt_end (by omega)] at h1
    have := congrArg List.length h1
    rw [List.length_drop] at this; simp at this; omega
  rw [rtoksAt_step ha, List.drop_eq_getElem_cons h] at h1
  exact ⟨a, ha, (List.cons.inj h1).1.symm⟩

/-- The spans after j rounds. -/
def outAt (s : ByteArray) (j : Nat) : List Sp := (((rtoks s).take j).foldl (refStep (pairsOf (rtoks s))) ([], 0)).1
def seenAt (s : ByteArray) (j : Nat) : Nat := (((rtoks s).take j).foldl (refStep (pairsOf (rtoks s))) ([], 0)).2
theorem at_step {s : ByteArray} {j : Nat} (h : j < (rtoks s).length) :
    outAt s (j + 1) = putSp (outAt s j) (marked (pairsOf (rtoks s)) (seenAt s j) (rtoks s)[j]) ∧ seenAt s (j + 1) = if ((rtoks s)[j]).kind = 7 then seenAt s j + 1 else seenAt s j := by
  unfold outAt seenAt
  rw [List.take_succ_eq_append_getElem h, List.foldl_append]
  exact ⟨rfl, rfl⟩
theorem out_end (s : ByteArray) : outAt s (rtoks s).length = spans s := by
  unfold outAt
  rw [List.take_length]
  exact refSpans_eq s
theorem put_len (out : List Sp) (y : Sp) : (putSp out y).length ≤ out.length + 1 := by
  unfold putSp
  split
  · unfold joined
    cases out.getLast? with
    | none => simp
    | some z => simp
  · simp
theorem out_len (s : ByteArray) : ∀ j, j ≤ (rtoks s).length → (outAt s j).length ≤ j ∧ seenAt s j ≤ j
  | 0, _ => by simp [outAt, seenAt]
  | j + 1, h => by
    obtain ⟨h1, h2⟩ := at_step (s := s) (j := j) (by omega)
    obtain ⟨h3, h4⟩ := out_len s j (by omega)
    rw [h1, h2]
    have := put_len (outAt s j) (marked (pairsOf (rtoks s)) (seenAt s j) (rtoks s)[j])
    refine ⟨by omega, ?_⟩
    split <;> omega
/-- The last span, if it is plain, is a part of the string. -/
theorem last_plain {s : ByteArray} {j : Nat} (h : j ≤ (rtoks s).length) {z : Sp} (hz : (outAt s j).getLast? = some z) (hk : z.kind = 1) : z.text.size ≤ s.size := by
  obtain ⟨st, a, hm⟩ := mid_all s j h
  have h1 := hm.same.out
  have h2 : outAt s j = plainTo s st a := h1
  rw [h2] at hz
  unfold plainTo at hz
  split at hz
  · rw [List.getLast?_append] at hz
    simp only [List.getLast?_singleton, Option.some_or, Option.some.injEq] at hz
    rw [← hz]
    show (s.extract _ _).size ≤ _
    rw [ByteArray.size_extract]
    have := hm.le
    omega
  · exact absurd hk (hm.same.np z hz)

/-! ### Rows of spans -/
theorem flat_len (l : List Sp) : (l.flatMap Sp.cells).length = l.length * 7 := by
  induction l with
  | nil => rfl
  | cons x l ih => rw [List.flatMap_cons, List.length_append, ih, Sp.cells_len, List.length_cons]; omega
theorem flat_at : ∀ (l : List Sp) (j : Nat) (h : j < l.length) (c : Nat), c < 7 → (l.flatMap Sp.cells)[j * 7 + c]? = (l[j]).cells[c]?
  | x :: l, 0, _, c, hc => by
    rw [List.flatMap_cons, List.getElem?_append_left (by rw [Sp.cells_len]; omega)]
    simp
  | x :: l, j + 1, h, c, hc => by
    rw [List.flatMap_cons, List.getElem?_append_right (by rw [Sp.cells_len]; omega), Sp.cells_len, show (j + 1) * 7 + c - 7 = j * 7 + c by omega]
    rw [flat_at l j (by simpa using h) c hc]
    simp
theorem flat_snoc (l : List Sp) (x : Sp) : (l ++ [x]).flatMap Sp.cells = l.flatMap Sp.cells ++ x.cells := by
  rw [List.flatMap_append]; simp
/-- Two cells of the last span written over. -/
theorem flat_set (l : List Sp) (z : Sp) (e : Nat) (t : ByteArray) :
    (((l ++ [z]).flatMap Sp.cells).set (l.length * 7 + 2) (.int .i64 e)).set (l.length * 7 + 3) (.string t) = (l ++ [{ z with to_ := e, text := t }]).flatMap Sp.cells := by
  have hl := flat_len l
  rw [flat_snoc, flat_snoc, List.set_append_right _ _ (by omega), List.set_append_right _ _ (by omega), hl]
  congr 1
  rw [show l.length * 7 + 2 - l.length * 7 = 2 by omega, show l.length * 7 + 3 - l.length * 7 = 3 by omega]
  rfl
theorem last_split {l : List Sp} {z : Sp} (h : l.getLast? = some z) : l = l.dropLast ++ [z] := by
  rw [List.getLast?_eq_some_iff] at h
  obtain ⟨ys, rfl⟩ := h
  simp
end Go.Proofs.YticdapkljbillaaGreatDoor
