/- Pure: the reference's way to the spans (tokens byte by byte, then what is plain is joined) comes to the same spans. -/
import Derived.Test.YticdapkljbillaaGreatDoorTyA
namespace Go.Proofs.YticdapkljbillaaGreatDoor
open Go.RowKit

/-- One byte that begins no token. -/
def oneSp (s : ByteArray) (a : Nat) : Sp := ⟨1, a, a + 1, s.extract a (a + 1), ⟨#[]⟩, 0, false⟩
/-- The reference's token at a position. -/
def refTok (s : ByteArray) (a : Nat) : Sp := match firstK (hit s a) 6 0 with | some k => spOf s ⟨k, a, tokEnd s a k⟩ | none => oneSp s a
def rtoksF (s : ByteArray) : Nat → Nat → List Sp
  | 0, _ => []
  | n + 1, a => if a < s.size then refTok s a :: rtoksF s n (refTok s a).to_ else []
def rtoks (s : ByteArray) : List Sp := rtoksF s s.size 0
def bolds (l : List Sp) : Nat := (l.filter fun x => x.kind == 7).length
def pairsOf (l : List Sp) : Nat := bolds l / 2 * 2

/-- A span as the reference's second loop leaves it: its kind, whether it is within a bold part. -/
def marked (pairs seen : Nat) (x : Sp) : Sp :=
  { x with kind := if x.kind = 7 ∧ pairs < seen + 1 then 1 else x.kind,
           strong := if x.kind = 7 then decide (seen + 1 ≤ pairs) else decide (seen % 2 = 1 ∧ seen ≤ pairs) }
def joins (out : List Sp) (y : Sp) : Bool := match out.getLast? with | some z => y.kind == 1 && z.kind == 1 && (z.strong == y.strong) | none => false
def joined (out : List Sp) (y : Sp) : List Sp := match out.getLast? with | some z => out.dropLast ++ [{ z with to_ := y.to_, text := z.text ++ y.text }] | none => out
def putSp (out : List Sp) (y : Sp) : List Sp := if joins out y = true then joined out y else out ++ [y]
def refStep (pairs : Nat) (st : List Sp × Nat) (x : Sp) : List Sp × Nat := (putSp st.1 (marked pairs st.2 x), if x.kind = 7 then st.2 + 1 else st.2)
def refSpans (s : ByteArray) : List Sp := ((rtoks s).foldl (refStep (pairsOf (rtoks s))) ([], 0)).1

theorem refTok_hit {s : ByteArray} {a k : Nat} (h : firstK (hit s a) 6 0 = some k) : refTok s a = spOf s ⟨k, a, tokEnd s a k⟩ := by unfold refTok; rw [h]
theorem refTok_none {s : ByteArray} {a : Nat} (h : firstK (hit s a) 6 0 = none) : refTok s a = oneSp s a := by unfold refTok; rw [h]
theorem spOf_to (s : ByteArray) (t : Tok) : (spOf s t).to_ = t.to_ ∧ (spOf s t).from_ = t.from_ := by unfold spOf; repeat' split
                                                                                                      all_goals exact ⟨rfl, rfl⟩
theorem spOf_kind (s : ByteArray) (t : Tok) (h : t.kind < 6) : (spOf s t).kind = t.kind + 2 := by
  unfold spOf
  rcases (by omega : t.kind = 0 ∨ t.kind = 1 ∨ t.kind = 2 ∨ t.kind = 3 ∨ t.kind = 4 ∨ t.kind = 5) with e | e | e | e | e | e <;> simp [e]
theorem refTok_lt {s : ByteArray} {a : Nat} (ha : a < s.size) : a < (refTok s a).to_ ∧ (refTok s a).to_ ≤ s.size ∧ (refTok s a).from_ = a := by
  cases h : firstK (hit s a) 6 0 with
  | some k =>
    rw [refTok_hit h, (spOf_to _ _).1, (spOf_to _ _).2]
    exact ⟨hit_lt (firstK_hit h).1, tokEnd_le ha, rfl⟩
  | none =>
    rw [refTok_none h]
    exact ⟨Nat.lt_succ_self a, ha, rfl⟩
theorem rtoksF_fuel (s : ByteArray) : ∀ (n m a : Nat), s.size - a ≤ n → s.size - a ≤ m → rtoksF s n a = rtoksF s m a
  | 0, 0, _, _, _ => rfl
  | 0, m + 1, a, h, _ => by simp only [rtoksF]; rw [if_neg (by omega)]
  | n + 1, 0, a, _, h => by simp only [rtoksF]; rw [if_neg (by omega)]
  | n + 1, m + 1, a, h1, h2 => by
    simp only [rtoksF]
    by_cases ha : a < s.size
    · have := (refTok_lt ha).1
      rw [if_pos ha, if_pos ha, rtoksF_fuel s n m _ (by omega) (by omega)]
    · rw [if_neg ha, if_neg ha]
/-- From a position on. -/
def rtoksAt (s : ByteArray) (a : Nat) : List Sp := rtoksF s (s.size - a) a
theorem rtoksAt_step {s : ByteArray} {a : Nat} (ha : a < s.size) : rtoksAt s a = refTok s a :: rtoksAt s (refTok s a).to_ := by
  unfold rtoksAt
  obtain ⟨n, hn⟩ : ∃ n, s.size - a = n + 1 := ⟨s.size - a - 1, by omega⟩
  rw [hn]
  simp only [rtoksF]
  have := (refTok_lt ha).1
  rw [if_pos ha, rtoksF_fuel s n (s.size - (refTok s a).to_) _ (by omega) (Nat.le_refl _)]
theorem rtoksAt_end {s : ByteArray} {a : Nat} (ha : ¬ a < s.size) : rtoksAt s a = [] := by
  unfold rtoksAt
  rw [show s.size - a = 0 by omega]; rfl
def toksAt (s : ByteArray) (a : Nat) : List Tok := toksF s (s.size - a) a

theorem stars_cons (t : Tok) (l : List Tok) : stars (t :: l) = (if t.kind = 5 then 1 else 0) + stars l := by
  unfold stars
  by_cases h : t.kind = 5 <;> simp [List.filter_cons, h]; omega
theorem bolds_cons (x : Sp) (l : List Sp) : bolds (x :: l) = (if x.kind = 7 then 1 else 0) + bolds l := by
  unfold bolds
  by_cases h : x.kind = 7 <;> simp [List.filter_cons, h]; omega
theorem bolds_at (s : ByteArray) : ∀ (n a : Nat), s.size - a ≤ n → bolds (rtoksAt s a) = stars (toksAt s a)
  | 0, a, h => by rw [rtoksAt_end (by omega)]; unfold toksAt; rw [toksF_end (by omega)]; rfl
  | n + 1, a, h => by
    by_cases ha : a < s.size
    · have hl := (refTok_lt ha).1
      have ih := bolds_at s n (refTok s a).to_ (by omega)
      rw [rtoksAt_step ha, bolds_cons, ih]
      unfold toksAt
      cases hk : firstK (hit s a) 6 0 with
      | some k =>
        have h6 := (firstK_hit hk).2
        rw [toksF_tok ha hk, stars_cons, refTok_hit hk, (spOf_to _ _).1, spOf_kind _ _ (by omega)]
        simp only
        by_cases h5 : k = 5
        · subst h5; simp
        · rw [if_neg (by omega), if_neg h5]
      | none =>
        rw [toksF_none ha hk, refTok_none hk]
        simp [oneSp]
    · rw [rtoksAt_end ha]; unfold toksAt; rw [toksF_end ha]; rfl
theorem bolds_stars (s : ByteArray) : bolds (rtoks s) = stars (toks s) := bolds_at s s.size 0 (by omega)
theorem pairs_eq (s : ByteArray) : pairsOf (rtoks s) = partnersOf s := by
  unfold pairsOf partnersOf
  rw [bolds_stars]; omega

/-- What the two ways have come to at a position: the same spans, if what is plain is closed there. -/
structure Same (s : ByteArray) (a pairs : Nat) (st : SpSt) (r : List Sp × Nat) : Prop where
  le : st.done ≤ a
  out : r.1 = plainTo s st a
  np : ∀ z, st.out.getLast? = some z → z.kind ≠ 1
  seen : st.seen = min r.2 pairs

theorem extract_join (s : ByteArray) {a b c : Nat} (h1 : a ≤ b) (h2 : b ≤ c) : s.extract a b ++ s.extract b c = s.extract a c := by
  rw [ByteArray.extract_append_extract]
  rw [Nat.min_eq_left h1, Nat.max_eq_right h2]

/-- A plain piece. -/
theorem put_plain {s : ByteArray} {st : SpSt} {a b : Nat} {y : Sp} (hle : st.done ≤ a) (hab : a < b) (hnp : ∀ z, st.out.getLast? = some z → z.kind ≠ 1)
    (hy : y = plainSp s a b st.seen) : putSp (plainTo s st a) y = plainTo s st b := by
  have hk : y.kind = 1 := by rw [hy]; rfl
  unfold plainTo
  rw [if_pos (by omega : st.done < b)]
  by_cases hd : st.done < a
  · rw [if_pos hd]
    have hj : joins (st.out ++ [plainSp s st.done a st.seen]) y = true := by
      unfold joins
      rw [List.getLast?_append]
      simp [hk, hy, plainSp]
    unfold putSp
    rw [if_pos hj]
    unfold joined
    rw [List.getLast?_append]
    simp only [List.getLast?_singleton, Option.some_or, List.dropLast_concat]
    rw [hy]
    simp only [plainSp]
    rw [extract_join s (by omega) (by omega)]
  · rw [if_neg hd]
    have hda : st.done = a := by omega
    have hj : joins st.out y = false := by
      unfold joins
      cases hz : st.out.getLast? with
      | none => rfl
      | some z =>
        have := hnp z hz
        have : (z.kind == 1) = false := by simpa using this
        simp [this]
    unfold putSp
    rw [if_neg (by simp [hj]), hy, hda]
/-- A piece that is not plain. -/
theorem put_other {out : List Sp} {y : Sp} (hy : y.kind ≠ 1) : putSp out y = out ++ [y] := by
  have hj : joins out y = false := by
    unfold joins
    have : (y.kind == 1) = false := by simpa using hy
    cases out.getLast? <;> simp [this]
  unfold putSp
  rw [if_neg (by simp [hj])]

theorem same_none {s : ByteArray} {a pairs : Nat} {st : SpSt} {r : List Sp × Nat} (h : Same s a pairs st r) (ha : a < s.size) (hk : firstK (hit s a) 6 0 = none) (hr : r.2 ≤ pairs + 1) (he : pairs % 2 = 0) :
    Same s (a + 1) pairs st (refStep pairs r (refTok s a)) := by
  have hs := h.seen
  rw [refTok_none hk]
  refine ⟨by have := h.le; omega, ?_, h.np, ?_⟩
  · show putSp r.1 _ = _
    rw [h.out]
    refine put_plain h.le (Nat.lt_succ_self a) h.np ?_
    have e : decide (r.2 % 2 = 1 ∧ r.2 ≤ pairs) = decide (st.seen % 2 = 1) := by
      rw [Bool.eq_iff_iff]; simp only [decide_eq_true_eq]; omega
    simp [marked, oneSp, plainSp, e]
  · show _ = min (if (oneSp s a).kind = 7 then r.2 + 1 else r.2) pairs
    rw [if_neg (by simp [oneSp])]; exact hs

theorem spOf_strong (s : ByteArray) (t : Tok) : (spOf s t).strong = false := by unfold spOf; repeat' split
                                                                                all_goals rfl
theorem same_tok {s : ByteArray} {a pairs k : Nat} {st : SpSt} {r : List Sp × Nat} (h : Same s a pairs st r) (ha : a < s.size) (hk : firstK (hit s a) 6 0 = some k) (hr : r.2 ≤ pairs + 1) (hr2 : k = 5 → r.2 ≤ pairs) (he : pairs % 2 = 0) (hp : partnersOf s = pairs) :
    Same s (tokEnd s a k) pairs (stepTok s (partnersOf s) st ⟨k, a, tokEnd s a k⟩) (refStep pairs r (refTok s a)) := by
  have hs := h.seen
  have h6 := (firstK_hit hk).2
  have hl := hit_lt (firstK_hit hk).1
  have hle := tokEnd_le (k := k) ha
  rw [refTok_hit hk, hp]
  by_cases h5 : k = 5
  · subst h5
    have hk7 : (spOf s ⟨5, a, tokEnd s a 5⟩).kind = 7 := by rw [spOf_kind _ _ (by omega)]
    by_cases hsn : st.seen = pairs
    · -- the star without a partner is plain
      have hr3 : r.2 = pairs := by have := hr2 rfl; omega
      have e : stepTok s pairs st ⟨5, a, tokEnd s a 5⟩ = st := by unfold stepTok; rw [if_pos ⟨rfl, hsn⟩]
      rw [e]
      refine ⟨by have := h.le; omega, ?_, h.np, ?_⟩
      · show putSp r.1 _ = _
        rw [h.out]
        refine put_plain h.le hl h.np ?_
        have e1 : marked pairs r.2 (spOf s ⟨5, a, tokEnd s a 5⟩) = { spOf s ⟨5, a, tokEnd s a 5⟩ with kind := 1, strong := false } := by
          unfold marked
          rw [hk7, if_pos ⟨rfl, by omega⟩, if_pos rfl]
          rw [show decide (r.2 + 1 ≤ pairs) = false from decide_eq_false (by omega)]
        rw [e1]
        have e2 : decide (st.seen % 2 = 1) = false := decide_eq_false (by omega)
        simp [spOf, plainSp, e2]
      · show _ = min (if (spOf s ⟨5, a, tokEnd s a 5⟩).kind = 7 then r.2 + 1 else r.2) pairs
        rw [if_pos hk7]; omega
    · have hr3 : st.seen = r.2 ∧ r.2 < pairs := by omega
      have e : stepTok s pairs st ⟨5, a, tokEnd s a 5⟩ = ⟨plainTo s st a ++ [{ spOf s ⟨5, a, tokEnd s a 5⟩ with strong := true }], st.seen + 1, tokEnd s a 5⟩ := by
        unfold stepTok
        rw [if_neg (fun h => hsn h.2)]
        simp
      rw [e]
      have e1 : marked pairs r.2 (spOf s ⟨5, a, tokEnd s a 5⟩) = { spOf s ⟨5, a, tokEnd s a 5⟩ with strong := true } := by
        unfold marked
        rw [hk7, if_neg (by omega), if_pos rfl, show decide (r.2 + 1 ≤ pairs) = true from decide_eq_true (by omega)]
        have hk8 := hk7
        generalize spOf s ⟨5, a, tokEnd s a 5⟩ = z at *
        cases z; simp only at hk8; rw [hk8]
      refine ⟨Nat.le_refl _, ?_, ?_, ?_⟩
      · show putSp r.1 _ = _
        rw [e1, put_other (by show (spOf s ⟨5, a, tokEnd s a 5⟩).kind ≠ 1; omega), h.out]
        unfold plainTo
        rw [if_neg (Nat.lt_irrefl _)]
      · intro z hz
        rw [List.getLast?_append] at hz
        simp only [List.getLast?_singleton, Option.some_or, Option.some.injEq] at hz
        rw [← hz]; show (spOf s ⟨5, a, tokEnd s a 5⟩).kind ≠ 1; omega
      · show st.seen + 1 = min (if (spOf s ⟨5, a, tokEnd s a 5⟩).kind = 7 then r.2 + 1 else r.2) pairs
        rw [if_pos hk7]; omega
  · have hk7 : (spOf s ⟨k, a, tokEnd s a k⟩).kind = k + 2 := spOf_kind _ _ h6
    have e : stepTok s pairs st ⟨k, a, tokEnd s a k⟩ = ⟨plainTo s st a ++ [{ spOf s ⟨k, a, tokEnd s a k⟩ with strong := decide (st.seen % 2 = 1) }], st.seen, tokEnd s a k⟩ := by
      unfold stepTok
      rw [if_neg (fun h => h5 h.1)]
      simp [h5]
    rw [e]
    have e1 : marked pairs r.2 (spOf s ⟨k, a, tokEnd s a k⟩) = { spOf s ⟨k, a, tokEnd s a k⟩ with strong := decide (st.seen % 2 = 1) } := by
      unfold marked
      rw [if_neg (by omega), if_neg (by omega)]
      rw [show decide (r.2 % 2 = 1 ∧ r.2 ≤ pairs) = decide (st.seen % 2 = 1) from by rw [Bool.eq_iff_iff]; simp only [decide_eq_true_eq]; omega]
    refine ⟨Nat.le_refl _, ?_, ?_, ?_⟩
    · show putSp r.1 _ = _
      rw [e1, put_other (by show (spOf s ⟨k, a, tokEnd s a k⟩).kind ≠ 1; omega), h.out]
      show _ = plainTo s ⟨_, st.seen, tokEnd s a k⟩ (tokEnd s a k)
      unfold plainTo
      simp only
      rw [if_neg (Nat.lt_irrefl _)]
    · intro z hz
      rw [List.getLast?_append] at hz
      simp only [List.getLast?_singleton, Option.some_or, Option.some.injEq] at hz
      rw [← hz]; show (spOf s ⟨k, a, tokEnd s a k⟩).kind ≠ 1; omega
    · show st.seen = min (if (spOf s ⟨k, a, tokEnd s a k⟩).kind = 7 then r.2 + 1 else r.2) pairs
      rw [if_neg (by omega)]; exact hs

theorem same_all (s : ByteArray) (pairs : Nat) (he : pairs % 2 = 0) (hp : partnersOf s = pairs) : ∀ (n a : Nat) (st : SpSt) (r : List Sp × Nat), s.size - a ≤ n → a ≤ s.size → Same s a pairs st r → r.2 + bolds (rtoksAt s a) ≤ pairs + 1 →
    ((rtoksAt s a).foldl (refStep pairs) r).1 = plainTo s ((toksAt s a).foldl (stepTok s pairs) st) s.size
  | n, a, st, r, hn, hle, h, hb => by
    by_cases ha : a < s.size
    · match n with
      | 0 => omega
      | n + 1 =>
        have hl := (refTok_lt ha)
        have hbc := hb
        rw [rtoksAt_step ha, bolds_cons] at hbc
        rw [rtoksAt_step ha, List.foldl_cons]
        cases hk : firstK (hit s a) 6 0 with
        | none =>
          have hto : (refTok s a).to_ = a + 1 := by rw [refTok_none hk]; rfl
          have hk1 : (refTok s a).kind = 1 := by rw [refTok_none hk]; rfl
          rw [if_neg (by omega)] at hbc
          have e : toksAt s a = toksAt s (a + 1) := toksF_none ha hk
          rw [e]
          rw [hto] at hbc hl ⊢
          have h2 : (refStep pairs r (refTok s a)).2 = r.2 := by unfold refStep; simp only; rw [if_neg (by omega)]
          exact same_all s pairs he hp n (a + 1) st _ (by omega) (by omega) (same_none h ha hk (by omega) he) (by rw [h2]; omega)
        | some k =>
          have h6 := (firstK_hit hk).2
          have hto : (refTok s a).to_ = tokEnd s a k := by rw [refTok_hit hk]; exact (spOf_to _ _).1
          have hkk : (refTok s a).kind = k + 2 := by rw [refTok_hit hk]; exact spOf_kind _ _ h6
          have e : toksAt s a = ⟨k, a, tokEnd s a k⟩ :: toksAt s (tokEnd s a k) := toksF_tok ha hk
          rw [e, List.foldl_cons]
          rw [hto] at hbc hl ⊢
          have hsm := same_tok h ha hk (by omega) (fun h5 => by subst h5; rw [if_pos (by omega)] at hbc; omega) he hp
          rw [hp] at hsm
          refine same_all s pairs he hp n (tokEnd s a k) _ _ (by omega) (by omega) hsm ?_
          have h2 : (refStep pairs r (refTok s a)).2 = if (refTok s a).kind = 7 then r.2 + 1 else r.2 := rfl
          rw [h2]
          by_cases h7 : (refTok s a).kind = 7
          · rw [if_pos h7] at hbc ⊢; omega
          · rw [if_neg h7] at hbc ⊢; omega
    · have hae : a = s.size := by omega
      subst hae
      rw [rtoksAt_end ha]
      unfold toksAt
      rw [toksF_end ha]
      exact h.out

theorem refSpans_eq (s : ByteArray) : refSpans s = spans s := by
  have hp : partnersOf s = pairsOf (rtoks s) := (pairs_eq s).symm
  unfold refSpans spans stAfter
  rw [hp]
  have e1 : rtoks s = rtoksAt s 0 := rfl
  have e2 : toks s = toksAt s 0 := rfl
  rw [e2]
  conv => lhs; rw [e1]
  have hev : pairsOf (rtoksAt s 0) % 2 = 0 := by unfold pairsOf; omega
  refine same_all s _ hev (by rw [hp, e1]) s.size 0 ⟨[], 0, 0⟩ ([], 0) (by omega) (Nat.zero_le _) ⟨Nat.le_refl _, rfl, ?_, ?_⟩ ?_
  · intro z hz; cases hz
  · simp
  · unfold pairsOf; simp only; omega
end Go.Proofs.YticdapkljbillaaGreatDoor
