/- Package text: the law TextLed. -/
import Derived.Test.YtdhaanlgijikeaaDoorTlA
import Derived.StillTailTactics
namespace Go.Proofs.YtdhaanlgijikeaaDoor
open Go.RowKit

theorem links4_le (l : List Sp) : links4 l ≤ l.length := by unfold links4; exact List.length_filter_le _ _
theorem links4_take {l : List Sp} {j : Nat} (h : j < l.length) : links4 (l.take (j + 1)) = links4 (l.take j) + if l[j].kind = 4 then 1 else 0 := by
  unfold links4
  rw [List.take_succ_eq_append_getElem h, List.filter_append, List.length_append]
  congr 1
  by_cases hk : l[j].kind = 4 <;> simp [hk]
theorem links4_app (a b : List Sp) : links4 (a ++ b) = links4 a + links4 b := by unfold links4; rw [List.filter_append, List.length_append]
/-- What Retarget leaves, span by span. -/
structure Led (a b : List Sp) (lk : Int) (tg : ByteArray) : Prop where
  len : a.length = b.length
  at_ : ∀ j (h : j < a.length) (h' : j < b.length), b[j].kind = a[j].kind ∧ b[j].shw = a[j].shw ∧ b[j].id = a[j].id ∧ b[j].strong = a[j].strong ∧ b[j].text = if a[j].kind = 4 ∧ (links4 (a.take j) : Int) = lk then tg else a[j].text
theorem led_of {SA SB SB' : List Sp} {x x' : Sp} {lk : Int} {tg : ByteArray} (h1 : (links4 SA : Int) = lk) (h2 : x.kind = 4) (h3 : bare x' = bare { x with text := tg }) (h4 : SB'.map bare = SB.map bare) : Led (SA ++ x :: SB) (SA ++ x' :: SB') lk tg := by
  have hl : SB'.length = SB.length := by have := congrArg List.length h4; simpa using this
  refine ⟨by simp [hl], fun j h h' => ?_⟩
  rcases (by omega : j < SA.length ∨ j = SA.length ∨ SA.length < j) with hj | hj | hj
  · rw [List.getElem_append_left hj, List.getElem_append_left hj]
    refine ⟨rfl, rfl, rfl, rfl, ?_⟩
    rw [if_neg]
    rintro ⟨hk, hc⟩
    rw [List.take_append_of_le_length (by omega)] at hc
    have h5 := links4_take hj
    rw [if_pos hk] at h5
    have h6 : links4 (SA.take (j + 1)) ≤ links4 SA := by
      conv => rhs; rw [← List.take_append_drop (j + 1) SA, links4_app]
      omega
    omega
  · subst hj
    obtain ⟨g1, g2, g3, g4, g5⟩ := bare_eq h3
    rw [List.getElem_append_right (Nat.le_refl _), List.getElem_append_right (Nat.le_refl _)]
    simp only [Nat.sub_self, List.getElem_cons_zero]
    refine ⟨g1, g3, g4, g5, ?_⟩
    rw [if_pos ⟨h2, by rw [List.take_left]; exact h1⟩]
    exact g2
  · obtain ⟨d, rfl⟩ : ∃ d, j = SA.length + 1 + d := ⟨j - SA.length - 1, by omega⟩
    have hd : d < SB.length := by simp at h; omega
    have e1 : (SA ++ x :: SB)[SA.length + 1 + d] = SB[d] := by
      rw [List.getElem_append_right (by omega)]
      simp only [show SA.length + 1 + d - SA.length = d + 1 by omega, List.getElem_cons_succ]
    have e2 : (SA ++ x' :: SB')[SA.length + 1 + d] = SB'[d]'(by omega) := by
      rw [List.getElem_append_right (by omega)]
      simp only [show SA.length + 1 + d - SA.length = d + 1 by omega, List.getElem_cons_succ]
    rw [e1, e2]
    have hb : bare (SB'[d]'(by omega)) = bare SB[d] := by
      have h5 : (SB'.map bare)[d]'(by simp; omega) = (SB.map bare)[d]'(by simpa using hd) := by simp only [h4]
      simpa using h5
    obtain ⟨g1, g2, g3, g4, g5⟩ := bare_eq hb
    refine ⟨g1, g3, g4, g5, ?_⟩
    rw [if_neg]
    · exact g2
    · rintro ⟨_, hc⟩
      have h5 : (SA ++ x :: SB).take (SA.length + 1 + d) = SA ++ x :: SB.take d := by
        rw [List.take_append, List.take_of_length_le (by omega), show SA.length + 1 + d - SA.length = d + 1 by omega, List.take_succ_cons]
      rw [h5, links4_app, links4_cons, if_pos h2] at hc
      omega
/-- Retarget's results. -/
theorem led_cases (s : ByteArray) (lk : Int) (tg : ByteArray) : ((rtRes s lk tg).2 ≠ 0 ∧ (rtRes s lk tg).1 = ⟨#[]⟩) ∨ ((rtRes s lk tg).2 = 0 ∧ (rtRes s lk tg).1.size ≤ 2000 ∧ s.size ≤ 2100 ∧ Led (spans s) (spans (rtRes s lk tg).1) lk tg) := by
  unfold rtRes
  by_cases h1 : lk < 0 ∨ ((rtAll lk (spans s)).2 : Int) ≤ lk
  · rw [if_pos h1]; exact .inl ⟨by decide, rfl⟩
  · rw [if_neg h1]
    rcases h2 : isTgt tg with _ | _
    · rw [if_pos rfl]; exact .inl ⟨by decide, rfl⟩
    · rw [if_neg (by decide)]
      by_cases h3 : 2000 < s.size - (rtAll lk (spans s)).1.text.size + tg.size
      · rw [if_pos h3]; exact .inl ⟨by decide, rfl⟩
      · rw [if_neg h3]
        right
        have hlink := rt_link (s := s) (lk := lk) (by omega) (by omega)
        obtain ⟨SA, x, SB, x', SB', g1, g2, g3, g4, g8, g5, g6, g7⟩ := led_spans s tg lk (by omega) (by omega) h2
        have h100 : x.text.size ≤ 100 := by
          unfold isTgt at g8
          rw [decide_eq_true_eq] at g8
          exact g8.2.1
        refine ⟨rfl, ?_, by rw [← g4] at h3; omega, ?_⟩
        · show (s.extract 0 ((rtAll lk (spans s)).1.from_ + 2) ++ tg ++ s.extract ((rtAll lk (spans s)).1.from_ + 2 + (rtAll lk (spans s)).1.text.size) s.size).size ≤ 2000
          rw [ByteArray.size_append, ByteArray.size_append, ByteArray.size_extract, ByteArray.size_extract]
          omega
        · have e : s.extract 0 ((rtAll lk (spans s)).1.from_ + 2) ++ tg ++ s.extract ((rtAll lk (spans s)).1.from_ + 2 + (rtAll lk (spans s)).1.text.size) s.size = ledTo s x tg := by rw [g4]; rfl
          show Led (spans s) (spans (s.extract 0 ((rtAll lk (spans s)).1.from_ + 2) ++ tg ++ s.extract ((rtAll lk (spans s)).1.from_ + 2 + (rtAll lk (spans s)).1.text.size) s.size)) lk tg
          rw [e, g1, g5]
          exact led_of g2 g3 g6 g7
end Go.Proofs.YtdhaanlgijikeaaDoor
