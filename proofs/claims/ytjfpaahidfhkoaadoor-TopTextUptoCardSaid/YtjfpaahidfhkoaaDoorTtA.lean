/- Pure: what is shown of an escaped string is the string. -/
import Derived.Test.YtjfpaahidfhkoaaDoorTyA
import Derived.Test.YtjfpaahidfhkoaaDoorSpD
namespace Go.Proofs.YtjfpaahidfhkoaaDoor
open Go.RowKit

theorem cut_one {s : ByteArray} {k : Nat} (h : k < s.size) : (s.extract k (k + 1)).data.toList = [s[k]] := by
  rw [Lib.extract_eq]
  simp only
  rw [show k + 1 - k = 1 by omega, List.take_one, List.head?_drop, List.getElem?_eq_getElem (by rw [Array.length_toList]; exact h)]
  rfl
def opener (c : UInt8) : Prop := c = 92 ∨ c = 96 ∨ c = 91 ∨ c = 40 ∨ c = 35 ∨ c = 42
instance (c : UInt8) : Decidable (opener c) := inferInstanceAs (Decidable (_ ∨ _))
theorem escB_yes {c : UInt8} (h : opener c) : escB c = [92, c] := by
  rcases h with rfl | rfl | rfl | rfl | rfl | rfl <;> rfl
theorem escB_no {c : UInt8} (h : ¬ opener c) : escB c = [c] := by
  unfold opener at h
  simp only [not_or] at h
  obtain ⟨h1, h2, h3, h4, h5, h6⟩ := h
  unfold escB
  rw [if_neg]
  simp [Lib.indexByte, Ne.symm h1, Ne.symm h2, Ne.symm h3, Ne.symm h4, Ne.symm h5, Ne.symm h6]
theorem opener_punct {c : UInt8} (h : opener c) : cPunct c = true := by
  rcases h with rfl | rfl | rfl | rfl | rfl | rfl <;> rfl

theorem at_list {s : ByteArray} {pre rest : List UInt8} {c : UInt8} (h : s.data.toList = pre ++ c :: rest) : ∃ hk : pre.length < s.size, s[pre.length] = c := by
  have hl : s.data.toList.length = s.size := by rw [Array.length_toList]; rfl
  have hk : pre.length < s.size := by rw [← hl, h]; simp
  refine ⟨hk, ?_⟩
  have h1 : s.data.toList[pre.length]? = some c := by rw [h]; simp
  rw [List.getElem?_eq_getElem (by rw [hl]; exact hk)] at h1
  exact Option.some.inj h1
theorem opB_val (j : Nat) : opB j = 92 ∨ opB j = 96 ∨ opB j = 91 ∨ opB j = 40 ∨ opB j = 35 ∨ opB j = 42 := by
  unfold opB
  repeat' split
  all_goals omega
theorem no_hit {s : ByteArray} {a : Nat} (ha : a < s.size) (h : ¬ opener s[a]) (j : Nat) : hit s a j = false := by
  unfold hit
  rw [decide_eq_false, Bool.false_and]
  rw [bAt_lt ha]
  intro e
  apply h
  have hc : ∀ n : Nat, n < 256 → (s[a].toNat : Int) = (n : Int) → s[a] = UInt8.ofNat n := by
    intro n hn e2
    apply UInt8.toNat_inj.1
    have : s[a].toNat = n := by omega
    rw [this, UInt8.toNat_ofNat']
    omega
  unfold opener
  rcases opB_val j with h1 | h1 | h1 | h1 | h1 | h1 <;> rw [h1] at e
  · exact .inl (hc 92 (by omega) e)
  · exact .inr (.inl (hc 96 (by omega) e))
  · exact .inr (.inr (.inl (hc 91 (by omega) e)))
  · exact .inr (.inr (.inr (.inl (hc 40 (by omega) e))))
  · exact .inr (.inr (.inr (.inr (.inl (hc 35 (by omega) e)))))
  · exact .inr (.inr (.inr (.inr (.inr (hc 42 (by omega) e)))))
theorem firstK_none {p : Nat → Bool} (h : ∀ j, p j = false) : ∀ n j, firstK p n j = none
  | 0, _ => rfl
  | n + 1, j => by unfold firstK; rw [if_neg (by rw [h]; simp)]; exact firstK_none h n (j + 1)
theorem esc_hit {s : ByteArray} {a : Nat} (ha : a + 1 < s.size) (h1 : s[a]'(by omega) = 92) (h2 : cPunct (s[a + 1]) = true) : firstK (hit s a) 6 0 = some 0 ∧ tokEnd s a 0 = a + 2 := by
  have e : tokEnd s a 0 = a + 2 := by
    show escEnd s a = a + 2
    unfold escEnd
    rw [dif_pos ha, if_pos h2]
  refine ⟨?_, e⟩
  have hh : hit s a 0 = true := by
    unfold hit
    rw [e, bAt_lt (by omega), h1]
    have : opB 0 = 92 := rfl
    rw [this]
    simp
  unfold firstK
  rw [if_pos hh]

theorem cut_mid {s : ByteArray} {pre rest : List UInt8} {d : Nat} (h : s.data.toList = pre ++ rest) (hd : d ≤ pre.length) : (s.extract d pre.length).data.toList = pre.drop d := by
  rw [Lib.extract_eq]
  simp only
  rw [h, List.drop_append_of_le_length hd, List.take_append_of_le_length (by simp), List.take_of_length_le (by simp)]

theorem shownL_append (s : ByteArray) (a b : List Sp) : shownL s (a ++ b) = shownL s a ++ shownL s b := by unfold shownL; rw [List.flatMap_append]
theorem plainTo_shown {s : ByteArray} {pre rest : List UInt8} {st : SpSt} (h : s.data.toList = pre ++ rest) (hd : st.done ≤ pre.length) : shownL s (plainTo s st pre.length) = shownL s st.out ++ pre.drop st.done := by
  unfold plainTo
  split
  · rw [shownL_append]
    congr 1
    have e : shownL s [plainSp s st.done pre.length st.seen] = (s.extract st.done pre.length).data.toList := by
      unfold shownL shownB
      simp [plainSp, shFrom, shTo]
    rw [e, cut_mid h hd]
  · have : st.done = pre.length := by omega
    rw [this, List.drop_length, List.append_nil]

theorem esc_walk (s : ByteArray) (p : Nat) : ∀ (l pre : List UInt8) (st : SpSt), s.data.toList = pre ++ escL l → st.done ≤ pre.length →
    shownL s (plainTo s ((toksF s (s.size - pre.length) pre.length).foldl (stepTok s p) st) s.size) = shownL s st.out ++ pre.drop st.done ++ l
  | [], pre, st, h, hd => by
    have hz : s.size = pre.length := by
      have hl : s.data.toList.length = s.size := by rw [Array.length_toList]; rfl
      rw [← hl, h]; simp [escL]
    rw [toksF_end (by omega), List.foldl_nil, hz, plainTo_shown h hd, List.append_nil]
  | c :: l, pre, st, h, hd => by
    by_cases ho : opener c
    · have h' : s.data.toList = pre ++ 92 :: (c :: escL l) := by
        rw [h]; unfold escL; rw [List.flatMap_cons, escB_yes ho]; rfl
      have h2 : s.data.toList = (pre ++ [92]) ++ c :: escL l := by rw [h']; simp
      have h3 : s.data.toList = (pre ++ [92, c]) ++ escL l := by rw [h']; simp
      obtain ⟨k1, a1⟩ := at_list h'
      obtain ⟨k2, a2⟩ := at_list h2
      have e2 : (pre ++ [92]).length = pre.length + 1 := by simp
      simp only [e2] at k2 a2
      obtain ⟨f1, f2⟩ := esc_hit k2 a1 (by rw [a2]; exact opener_punct ho)
      rw [toksF_tok k1 f1, f2, List.foldl_cons]
      have est : stepTok s p st ⟨0, pre.length, pre.length + 2⟩ = ⟨plainTo s st pre.length ++ [{ spOf s ⟨0, pre.length, pre.length + 2⟩ with strong := decide (st.seen % 2 = 1 ∨ (0 : Nat) = 5) }], st.seen, pre.length + 2⟩ := by
        unfold stepTok
        rw [if_neg (by rintro ⟨h, _⟩; simp at h)]
        simp
      rw [est]
      have e3 : (pre ++ [92, c]).length = pre.length + 2 := by simp
      have ih := esc_walk s p l (pre ++ [92, c]) ⟨plainTo s st pre.length ++ [{ spOf s ⟨0, pre.length, pre.length + 2⟩ with strong := decide (st.seen % 2 = 1 ∨ (0 : Nat) = 5) }], st.seen, pre.length + 2⟩ h3 (by rw [e3]; exact Nat.le_refl _)
      rw [e3] at ih
      rw [ih, shownL_append, plainTo_shown h hd]
      have e4 : shownL s [{ spOf s ⟨0, pre.length, pre.length + 2⟩ with strong := decide (st.seen % 2 = 1 ∨ (0 : Nat) = 5) }] = [c] := by
        unfold shownL shownB
        have e5 : (s.extract (pre.length + 1) (pre.length + 2)).data.toList = [c] := by
          have := cut_one k2
          rw [a2] at this
          exact this
        have e7 : ((pre.length : Int) + 2).toNat = pre.length + 2 := by omega
        have e8 : pre.length + 2 - (pre.length + 1) = 1 := by omega
        simp only [spOf, shFrom, shTo, List.flatMap_cons, List.flatMap_nil, List.append_nil]
        simpa [e7, e8] using e5
      rw [e4]
      have e6 : (pre ++ [92, c]).drop (pre.length + 2) = [] := by rw [← e3]; exact List.drop_length
      simp only [e6]
      simp
    · have h' : s.data.toList = pre ++ c :: escL l := by
        rw [h]; unfold escL; rw [List.flatMap_cons, escB_no ho]; rfl
      have h3 : s.data.toList = (pre ++ [c]) ++ escL l := by rw [h']; simp
      obtain ⟨k1, a1⟩ := at_list h'
      have hn : firstK (hit s pre.length) 6 0 = none := firstK_none (no_hit k1 (by rw [a1]; exact ho)) 6 0
      have e3 : (pre ++ [c]).length = pre.length + 1 := by simp
      have ih := esc_walk s p l (pre ++ [c]) st h3 (by rw [e3]; omega)
      rw [e3] at ih
      rw [toksF_none k1 hn, ih, List.drop_append_of_le_length hd]
      simp
/-- What is shown of an escaped string is the string. -/
theorem esc_shown (l : List UInt8) : shownL ⟨(escL l).toArray⟩ (spans ⟨(escL l).toArray⟩) = l := by
  have h := esc_walk ⟨(escL l).toArray⟩ (partnersOf ⟨(escL l).toArray⟩) l [] ⟨[], 0, 0⟩ (by simp) (Nat.zero_le _)
  simpa [spans, stAfter, toks, shownL] using h
end Go.Proofs.YtjfpaahidfhkoaaDoor
