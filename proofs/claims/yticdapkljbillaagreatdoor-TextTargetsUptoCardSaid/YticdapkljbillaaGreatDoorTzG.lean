/- The reference's token at every position. -/
import Derived.Test.YticdapkljbillaaGreatDoorTzF
import Derived.WalkKit
import Derived.Lib.Hide
namespace Go.Proofs.YticdapkljbillaaGreatDoor
open Go.RowKit

theorem tok_none {s : ByteArray} {a : Nat} (h : ∀ j, j < 6 → bAt s a ≠ opB j) : refTok s a = oneSp s a := by
  have hh : ∀ j, j < 6 → hit s a j = false := fun j hj => by unfold hit; rw [decide_eq_false (h j hj), Bool.false_and]
  refine refTok_none ?_
  simp [firstK, hh 0 (by omega), hh 1 (by omega), hh 2 (by omega), hh 3 (by omega), hh 4 (by omega), hh 5 (by omega)]
theorem tok_of {s : ByteArray} {a j : Nat} (hj : j < 6) (h : bAt s a = opB j) : refTok s a = if a < tokEnd s a j then spOf s ⟨j, a, tokEnd s a j⟩ else oneSp s a := by
  have hh : ∀ i, i < 6 → i ≠ j → hit s a i = false := fun i hi hne => by
    unfold hit
    rw [decide_eq_false (fun e => hne ?_), Bool.false_and]
    rw [h] at e
    unfold opB at e
    rcases (by omega : i = 0 ∨ i = 1 ∨ i = 2 ∨ i = 3 ∨ i = 4 ∨ i = 5) with rfl | rfl | rfl | rfl | rfl | rfl <;>
      rcases (by omega : j = 0 ∨ j = 1 ∨ j = 2 ∨ j = 3 ∨ j = 4 ∨ j = 5) with rfl | rfl | rfl | rfl | rfl | rfl <;> first | rfl | (exfalso; revert e; decide)
  have hj1 : hit s a j = decide (a < tokEnd s a j) := by unfold hit; rw [decide_eq_true h, Bool.true_and]
  have key : firstK (hit s a) 6 0 = if a < tokEnd s a j then some j else none := by
    by_cases hlt : a < tokEnd s a j
    · rw [decide_eq_true hlt] at hj1
      rw [if_pos hlt]
      rcases (by omega : j = 0 ∨ j = 1 ∨ j = 2 ∨ j = 3 ∨ j = 4 ∨ j = 5) with rfl | rfl | rfl | rfl | rfl | rfl
      · simp [firstK, hj1]
      · simp [firstK, hj1, hh 0 (by omega) (by omega)]
      · simp [firstK, hj1, hh 0 (by omega) (by omega), hh 1 (by omega) (by omega)]
      · simp [firstK, hj1, hh 0 (by omega) (by omega), hh 1 (by omega) (by omega), hh 2 (by omega) (by omega)]
      · simp [firstK, hj1, hh 0 (by omega) (by omega), hh 1 (by omega) (by omega), hh 2 (by omega) (by omega), hh 3 (by omega) (by omega)]
      · simp [firstK, hj1, hh 0 (by omega) (by omega), hh 1 (by omega) (by omega), hh 2 (by omega) (by omega), hh 3 (by omega) (by omega), hh 4 (by omega) (by omega)]
    · rw [decide_eq_false hlt] at hj1
      rw [if_neg hlt]
      have hall : ∀ i, i < 6 → hit s a i = false := fun i hi => by
        by_cases e : i = j
        · rw [e]; exact hj1
        · exact hh i hi e
      simp [firstK, hall 0 (by omega), hall 1 (by omega), hall 2 (by omega), hall 3 (by omega), hall 4 (by omega), hall 5 (by omega)]
  by_cases hlt : a < tokEnd s a j
  · rw [if_pos hlt] at key ⊢
    exact refTok_hit key
  · rw [if_neg hlt] at key ⊢
    exact refTok_none key

theorem decV_mono (l : List UInt8) : ∀ acc : Nat, acc ≤ l.foldl (fun n c => n * 10 + (c.toNat - 48)) acc := by
  induction l with
  | nil => intro acc; exact Nat.le_refl _
  | cons c l ih =>
    intro acc
    rw [List.foldl_cons]
    have := ih (acc * 10 + (c.toNat - 48))
    omega
theorem decAt_pos {s : ByteArray} {b d : Nat} (hd : 0 < d) (hb : b < s.size) (h : 49 ≤ bAt s b) : 0 < decAt s b d := by
  unfold decAt decV
  have h1 := Lib.data_getElem? s b hb
  rw [bAt_lt hb] at h
  have h2 : s.data.toList.drop b = (s[b]'hb) :: s.data.toList.drop (b + 1) := by
    rw [List.drop_eq_getElem_cons (by rw [← Lib.size_eq]; exact hb)]
    congr 1
  obtain ⟨e, rfl⟩ : ∃ e, d = e + 1 := ⟨d - 1, by omega⟩
  rw [h2, List.take_succ_cons, List.foldl_cons]
  have := decV_mono ((s.data.toList.drop (b + 1)).take e) (0 * 10 + ((s[b]'hb).toNat - 48))
  omega
theorem pre_not2 {s : ByteArray} {a : Nat} (h : a < s.size) {c d : UInt8} (hne : bAt s a ≠ (c.toNat : Int)) : pre s a ⟨#[c, d]⟩ = false := by
  cases hp : pre s a ⟨#[c, d]⟩ with
  | false => rfl
  | true => exact absurd (pre_two.1 hp).1 hne
theorem tok_of_yes {s : ByteArray} {a j e : Nat} (hj : j < 6) (h : bAt s a = opB j) (he : tokEnd s a j = e) (hlt : a < e) : refTok s a = spOf s ⟨j, a, e⟩ := by
  rw [tok_of hj h, he, if_pos hlt]
theorem tok_of_no {s : ByteArray} {a j : Nat} (hj : j < 6) (h : bAt s a = opB j) (he : tokEnd s a j = 0) : refTok s a = oneSp s a := by
  rw [tok_of hj h, he, if_neg (by omega)]

theorem token_any (s : ByteArray) (a : Nat) (w : World) (hs : s.size ≤ 4000000000) (ha : a < s.size) :
    Calls Tryz.prog 35 #[.string s, .int .i64 a] w (Quiet w (refTok s a).val) := by
  have hb := bAt_lt ha
  by_cases c0 : bAt s a = 92
  · have h0 : (s[a].toNat : Int) = 92 := by rw [← hb]; exact c0
    by_cases h1 : a + 1 < s.size
    · cases h2 : cPunct (s[a + 1]'h1)
      · rw [tok_of_no (j := 0) (by omega) c0 (by unfold tokEnd escEnd; rw [if_pos rfl, dif_pos h1, if_neg (by simp [h2])])]
        exact token_esc_no s a w hs ha h0 h1 h2
      · rw [tok_of_yes (j := 0) (e := a + 2) (by omega) c0 (by unfold tokEnd escEnd; rw [if_pos rfl, dif_pos h1, if_pos h2]) (by omega)]
        exact token_esc_yes s a w hs ha h0 h1 h2
    · rw [tok_of_no (j := 0) (by omega) c0 (by unfold tokEnd escEnd; rw [if_pos rfl, dif_neg h1])]
      exact token_esc_short s a w hs ha h0 h1
  by_cases c1 : bAt s a = 96
  · have h0 : (s[a].toNat : Int) = 96 := by rw [← hb]; exact c1
    by_cases h1 : Lib.indexByte (s.extract (a + 1) s.size).data.toList 96 < 1
    · rw [tok_of_no (j := 1) (by omega) c1 (by unfold tokEnd codEnd; rw [if_neg (by omega), if_pos rfl, if_pos h1])]
      exact token_code_no s a w hs ha h0 h1
    · obtain ⟨i, hi⟩ := Int.eq_ofNat_of_zero_le (by omega : 0 ≤ Lib.indexByte (s.extract (a + 1) s.size).data.toList 96)
      rw [tok_of_yes (j := 1) (e := a + i + 2) (by omega) c1 (by unfold tokEnd codEnd; rw [if_neg (by omega), if_pos rfl, if_neg h1, hi]; rfl) (by omega)]
      exact token_code_yes s a w hs ha i h0 hi (by omega)
  by_cases c2 : bAt s a = 91
  · have h0 : (s[a].toNat : Int) = 91 := by rw [← hb]; exact c2
    have te : tokEnd s a 2 = lnkEnd s a := by unfold tokEnd; rw [if_neg (by omega), if_neg (by omega), if_pos rfl]
    cases k1 : pre s a ⟨#[91, 91]⟩
    · rw [tok_of_no (j := 2) (by omega) c2 (by rw [te]; unfold lnkEnd; rw [if_neg (by simp [k1])])]
      exact token_bare s a w hs ha (by omega) (by omega) (by omega) k1 (pre_not2 ha (by rw [c2]; decide)) (pre_not2 ha (by rw [c2]; decide))
    · have hz : a + 2 ≤ s.size := pre_le k1 (by omega)
      rcases Int.lt_or_le (anyOf (s.extract (a + 2) s.size) brk) 0 with hk | hk
      · rw [tok_of_no (j := 2) (by omega) c2 (by rw [te]; exact lnk_none k1 ha hk)]
        exact token_link_none s a w hs ha k1 hk
      · obtain ⟨k, hk⟩ := Int.eq_ofNat_of_zero_le hk
        have hl := lnk_some k1 ha hk
        cases h1 : pre s (a + 2 + k) ⟨#[93, 93]⟩
        · rw [tok_of_no (j := 2) (by omega) c2 (by rw [te, hl, if_neg (fun e => by rw [h1] at e; cases e.1)])]
          exact token_link_noend s a w hs ha k1 k hk h1
        · cases h2 : isTgt (cutL (s.extract (a + 2) (a + 2 + k)))
          · rw [tok_of_no (j := 2) (by omega) c2 (by rw [te, hl, if_neg (fun e => by rw [h2] at e; cases e.2.1)])]
            exact token_link_bad s a w hs ha k1 k hk h1 h2
          · rcases Int.lt_or_le (bar (s.extract (a + 2) (a + 2 + k))) 0 with h3 | h3
            · rw [tok_of_yes (j := 2) (e := a + k + 4) (by omega) c2 (by rw [te, hl, if_pos ⟨h1, h2, .inl h3⟩]) (by omega)]
              exact token_link_nobar s a w hs ha k1 k hk h1 h2 h3
            · by_cases h4 : (cutR (s.extract (a + 2) (a + 2 + k))).size = 0
              · rw [tok_of_no (j := 2) (by omega) c2 (by rw [te, hl, if_neg (fun e => by rcases e.2.2 with h5 | h5 <;> omega)])]
                exact token_link_empty s a w hs ha k1 k hk h1 h2 h3 h4
              · rw [tok_of_yes (j := 2) (e := a + k + 4) (by omega) c2 (by rw [te, hl, if_pos ⟨h1, h2, .inr (by omega)⟩]) (by omega)]
                exact token_link_bar s a w hs ha k1 k hk h1 h2 h3 (by omega)
  by_cases c3 : bAt s a = 40
  · have te : tokEnd s a 3 = rfEnd s a := by unfold tokEnd; rw [if_neg (by omega), if_neg (by omega), if_neg (by omega), if_pos rfl]
    cases k1 : pre s a ⟨#[40, 40]⟩
    · rw [tok_of_no (j := 3) (by omega) c3 (by rw [te]; unfold rfEnd; rw [if_neg (by simp [k1])])]
      exact token_bare s a w hs ha (by omega) (by omega) (by omega) (pre_not2 ha (by rw [c3]; decide)) k1 (pre_not2 ha (by rw [c3]; decide))
    · have hz : a + 2 ≤ s.size := pre_le k1 (by omega)
      have hr := runTo_le (cls := cDigit) hz
      obtain ⟨d, hd⟩ : ∃ d, a + 2 + d = runTo cDigit s (a + 2) := ⟨runTo cDigit s (a + 2) - (a + 2), by omega⟩
      have hre : refIdN (s.extract (a + 2) (a + 2 + d)) = 0 ↔ ¬ (1 ≤ d ∧ d ≤ 7 ∧ bAt s (a + 2) ≠ 48 ∧ decAt s (a + 2) d ≤ 1000000) := by
        rw [← hd] at hr
        have hzz : (s.extract (a + 2) (a + 2 + d)).size = d := by rw [ByteArray.size_extract]; omega
        rw [decAt_eq (by omega)]
        unfold refIdN
        rw [hzz]
        by_cases hbad : d = 0 ∨ 7 < d ∨ bAt (s.extract (a + 2) (a + 2 + d)) 0 = 48 ∨ 1000000 < decV (s.extract (a + 2) (a + 2 + d)).data.toList
        · rw [if_pos hbad]
          refine iff_of_true rfl ?_
          rintro ⟨h1, h2, h3, h4⟩
          rcases hbad with h | h | h | h
          · omega
          · omega
          · rw [bAt_cut (by omega) (by omega)] at h; exact h3 h
          · omega
        · rw [if_neg hbad]
          refine iff_of_false ?_ ?_
          · intro h5
            have hpos : 0 < d := by omega
            have h6 : bAt (s.extract (a + 2) (a + 2 + d)) 0 ≠ 48 := fun e => hbad (.inr (.inr (.inl e)))
            rw [bAt_cut (by omega) (by omega), Nat.add_zero] at h6
            have h7 := runs_in (p := pDigit) (fun c hc => (cDigit_p c).1 hc) (s := s) (a := a + 2) (i := a + 2) (Nat.le_refl _) (by omega)
            rw [← decAt_eq (by omega)] at h5
            have h8 := decAt_pos (s := s) (b := a + 2) (d := d) hpos (by omega) (by unfold pDigit at h7; omega)
            omega
          · intro hc
            refine hc ⟨by omega, by omega, ?_, by omega⟩
            intro e
            refine hbad (.inr (.inr (.inl ?_)))
            rw [bAt_cut (by omega) (by omega)]; exact e
      have tr : rfEnd s a = if refIdN (s.extract (a + 2) (a + 2 + d)) = 0 then 0 else eAfter s (a + 2 + d) ⟨#[41, 41]⟩ := by unfold rfEnd; rw [if_pos k1, ← hd]
      by_cases hg : refGood s a d
      · obtain ⟨g1, g2, g3, g4, g5⟩ := id hg
        rw [tok_of_yes (j := 3) (e := a + d + 4) (by omega) c3 (by
          rw [te, tr, if_neg (fun e => hre.1 e ⟨g1, g2, g3, g4⟩), eAfter_yes g5]
          show a + 2 + d + 2 = _; omega) (by omega)]
        exact token_ref_yes s a w hs ha k1 d hd hg
      · rw [tok_of_no (j := 3) (by omega) c3 (by
          rw [te, tr]
          by_cases h0 : refIdN (s.extract (a + 2) (a + 2 + d)) = 0
          · rw [if_pos h0]
          · rw [if_neg h0]
            have h1 : 1 ≤ d ∧ d ≤ 7 ∧ bAt s (a + 2) ≠ 48 ∧ decAt s (a + 2) d ≤ 1000000 := Classical.byContradiction fun e => h0 (hre.2 e)
            refine eAfter_no ?_
            cases h2 : pre s (a + 2 + d) ⟨#[41, 41]⟩ with
            | false => rfl
            | true => exact absurd ⟨h1.1, h1.2.1, h1.2.2.1, h1.2.2.2, h2⟩ hg)]
        exact token_ref_no s a w hs ha k1 d hd hg
  by_cases c4 : bAt s a = 35
  · have h0 : (s[a].toNat : Int) = 35 := by rw [← hb]; exact c4
    have te : tokEnd s a 4 = tgEnd s a := by unfold tokEnd; rw [if_neg (by omega), if_neg (by omega), if_neg (by omega), if_neg (by omega), if_pos rfl]
    have hr := runTo_le (cls := cTag) (s := s) (a := a + 1) (by omega)
    obtain ⟨d, hd⟩ : ∃ d, a + 1 + d = runTo cTag s (a + 1) := ⟨runTo cTag s (a + 1) - (a + 1), by omega⟩
    cases hk : keepsB s a
    · cases hg : isTagRun (s.extract (a + 1) (a + 1 + d))
      · rw [tok_of_no (j := 4) (by omega) c4 (by rw [te]; unfold tgEnd; rw [if_neg (by simp [hk]), ← hd, if_neg (by simp [hg])])]
        exact token_tag_no s a w hs ha h0 hk d hd hg
      · rw [tok_of_yes (j := 4) (e := a + d + 1) (by omega) c4 (by rw [te]; unfold tgEnd; rw [if_neg (by simp [hk]), ← hd, if_pos hg]; omega) (by omega)]
        exact token_tag_yes s a w hs ha h0 hk d hd hg
    · rw [tok_of_no (j := 4) (by omega) c4 (by rw [te]; unfold tgEnd; rw [if_pos hk])]
      exact token_tag_keeps s a w hs ha h0 hk
  have n0 : (s[a].toNat : Int) ≠ 92 := by rw [← hb]; exact c0
  have n1 : (s[a].toNat : Int) ≠ 96 := by rw [← hb]; exact c1
  have n4 : (s[a].toNat : Int) ≠ 35 := by rw [← hb]; exact c4
  have p1 : pre s a ⟨#[91, 91]⟩ = false := pre_not2 ha c2
  have p2 : pre s a ⟨#[40, 40]⟩ = false := pre_not2 ha c3
  have te : tokEnd s a 5 = eAfter s a ⟨#[42, 42]⟩ := by unfold tokEnd; rw [if_neg (by omega), if_neg (by omega), if_neg (by omega), if_neg (by omega), if_neg (by omega)]
  cases k3 : pre s a ⟨#[42, 42]⟩
  · by_cases c5 : bAt s a = 42
    · rw [tok_of_no (j := 5) (by omega) c5 (by rw [te]; exact eAfter_no k3)]
      exact token_bare s a w hs ha n0 n1 n4 p1 p2 k3
    · rw [tok_none (fun j hj => by
        rcases (by omega : j = 0 ∨ j = 1 ∨ j = 2 ∨ j = 3 ∨ j = 4 ∨ j = 5) with rfl | rfl | rfl | rfl | rfl | rfl
        · exact c0
        · exact c1
        · exact c2
        · exact c3
        · exact c4
        · exact c5)]
      exact token_bare s a w hs ha n0 n1 n4 p1 p2 k3
  · have c5 : bAt s a = 42 := (pre_two.1 k3).1
    rw [tok_of_yes (j := 5) (e := a + 2) (by omega) c5 (by rw [te, eAfter_yes k3]; rfl) (by omega)]
    exact token_bold s a w hs ha n0 n1 n4 p1 p2 k3
end Go.Proofs.YticdapkljbillaaGreatDoor
