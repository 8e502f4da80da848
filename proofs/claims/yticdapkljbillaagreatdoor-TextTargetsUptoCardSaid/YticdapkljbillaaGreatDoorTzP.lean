/- Pure: what the reference shows of a span, and where its bytes come from. -/
import Derived.Test.YticdapkljbillaaGreatDoorTzI
namespace Go.Proofs.YticdapkljbillaaGreatDoor
open Go.RowKit

def refStr (x : Sp) : ByteArray :=
  if x.kind = 4 then (if x.shw.size = 0 then x.text else x.shw)
  else if x.kind = 5 then ⟨#[40, 40]⟩ ++ x.text ++ ⟨#[41, 41]⟩
  else if x.kind = 6 then ⟨#[35]⟩ ++ x.text
  else if x.kind = 7 then ⟨#[]⟩ else x.text
def refFrom (x : Sp) : Nat :=
  if x.kind = 2 ∨ x.kind = 3 then x.from_ + 1
  else if x.kind = 4 then (if x.shw.size = 0 then x.from_ + 2 else x.from_ + 2 + x.text.size + 1)
  else x.from_

/-- What the reference shows is what the program shows. -/
structure SpRef (s : ByteArray) (x : Sp) : Prop where
  sz : shTo x - shFrom x = (refStr x).size
  fr : 0 < (refStr x).size → shFrom x = refFrom x
  str : refStr x = s.extract (shFrom x).toNat (shTo x).toNat
  kind : 1 ≤ x.kind ∧ x.kind ≤ 7
  bound : refFrom x + (refStr x).size ≤ s.size + 1

theorem toksF_hit (s : ByteArray) : ∀ (n a : Nat), ∀ t ∈ toksF s n a, t.from_ < s.size ∧ firstK (hit s t.from_) 6 0 = some t.kind ∧ t.to_ = tokEnd s t.from_ t.kind
  | 0, _, t, h => by simp [toksF] at h
  | n + 1, a, t, h => by
    unfold toksF at h
    split at h
    · rename_i ha
      split at h
      · rename_i k hk
        rcases List.mem_cons.1 h with rfl | h
        · exact ⟨ha, hk, rfl⟩
        · exact toksF_hit s n _ t h
      · exact toksF_hit s n _ t h
    · simp at h
theorem fold_all {s : ByteArray} {p : Nat} {P : Sp → Prop} (hp : ∀ a b n, a < b → b ≤ s.size → P (plainSp s a b n)) :
    ∀ (l : List Tok) (st : SpSt), (∀ t ∈ l, t.from_ ≤ s.size ∧ ∀ b, P { spOf s t with strong := b }) → (∀ x ∈ st.out, P x) → ∀ x ∈ (l.foldl (stepTok s p) st).out, P x
  | [], st, _, h, x, hx => h x hx
  | t :: r, st, ht, h, x, hx => by
    rw [List.foldl_cons] at hx
    refine fold_all hp r _ (fun t' h' => ht t' (List.mem_cons_of_mem _ h')) ?_ x hx
    obtain ⟨h1, h2⟩ := ht t (List.mem_cons_self ..)
    unfold stepTok
    split
    · exact h
    · intro y hy
      rcases List.mem_append.1 hy with hy | hy
      · unfold plainTo at hy
        split at hy
        · rcases List.mem_append.1 hy with hy | hy
          · exact h y hy
          · simp only [List.mem_singleton] at hy
            rw [hy]; exact hp _ _ _ (by assumption) h1
        · exact h y hy
      · simp only [List.mem_singleton] at hy
        rw [hy]; exact h2 _
theorem spans_all {s : ByteArray} {P : Sp → Prop} (hp : ∀ a b n, a < b → b ≤ s.size → P (plainSp s a b n)) (ht : ∀ t ∈ toks s, ∀ b, P { spOf s t with strong := b }) : ∀ x ∈ spans s, P x := by
  have h1 := fold_all (p := partnersOf s) hp (toks s) ⟨[], 0, 0⟩ (fun t h => ⟨Nat.le_of_lt (toksF_hit s s.size 0 t h).1, ht t h⟩) (fun x hx => by cases hx)
  intro x hx
  unfold spans plainTo at hx
  split at hx
  · rcases List.mem_append.1 hx with hx | hx
    · exact h1 x hx
    · simp only [List.mem_singleton] at hx
      rw [hx]; exact hp _ _ _ (by assumption) (Nat.le_refl _)
  · exact h1 x hx

theorem str_size0 {t : ByteArray} : t.toList = [] ↔ t.size = 0 := by
  constructor
  · intro h
    rw [Lib.size_eq, ← Lib.toList_data, h]; rfl
  · exact str_empty
theorem ext_size {s : ByteArray} {a b : Nat} (h : b ≤ s.size) : (s.extract a b).size = b - a := by rw [ByteArray.size_extract]; omega

theorem plain_ref {s : ByteArray} {a b n : Nat} (h1 : a < b) (h2 : b ≤ s.size) : SpRef s (plainSp s a b n) := by
  have hz := ext_size (s := s) (a := a) h2
  refine ⟨?_, ?_, ?_, ?_, ?_⟩
  · show (b : Int) - a = ((s.extract a b).size : Nat); omega
  · intro _; rfl
  · show s.extract a b = s.extract ((a : Int)).toNat ((b : Int)).toNat; simp
  · show 1 ≤ 1 ∧ 1 ≤ 7; omega
  · show a + (s.extract a b).size ≤ _; omega

set_option maxHeartbeats 1000000 in
theorem tok_ref_esc {s : ByteArray} {a : Nat} (ha : a < s.size) (hlt : a < tokEnd s a 0) (hle : tokEnd s a 0 ≤ s.size) (hop : bAt s a = opB 0) (b : Bool) : SpRef s { spOf s ⟨0, a, tokEnd s a 0⟩ with strong := b } := by
  have he : tokEnd s a 0 = a + 2 := by
    unfold tokEnd escEnd at hlt ⊢
    rw [if_pos rfl] at hlt ⊢
    split
    · split
      · rfl
      · rename_i h1 h2; rw [dif_pos h1, if_neg h2] at hlt; omega
    · rename_i h1; rw [dif_neg h1] at hlt; omega
  rw [he] at hle ⊢
  have hz := ext_size (s := s) (a := a + 1) hle
  refine ⟨?_, ?_, ?_, ?_, ?_⟩
  · show ((a + 2 : Nat) : Int) - ((a : Int) + 1) = ((s.extract (a + 1) (a + 2)).size : Nat); omega
  · intro _; show (a : Int) + 1 = ((a + 1 : Nat) : Int); omega
  · show s.extract (a + 1) (a + 2) = s.extract ((a : Int) + 1).toNat ((a + 2 : Nat) : Int).toNat
    congr 1
  · show 1 ≤ 2 ∧ 2 ≤ 7; omega
  · show a + 1 + (s.extract (a + 1) (a + 2)).size ≤ _; omega
set_option maxHeartbeats 1000000 in
theorem tok_ref_code {s : ByteArray} {a : Nat} (ha : a < s.size) (hlt : a < tokEnd s a 1) (hle : tokEnd s a 1 ≤ s.size) (hop : bAt s a = opB 1) (b : Bool) : SpRef s { spOf s ⟨1, a, tokEnd s a 1⟩ with strong := b } := by
  have he : a + 3 ≤ tokEnd s a 1 := by
    unfold tokEnd codEnd at hlt ⊢
    rw [if_neg (by omega), if_pos rfl] at hlt ⊢
    split
    · rename_i h1; rw [if_pos h1] at hlt; omega
    · omega
  generalize tokEnd s a 1 = e at *
  have hz := ext_size (s := s) (a := a + 1) (b := e - 1) (by omega)
  refine ⟨?_, ?_, ?_, ?_, ?_⟩
  · show ((e : Nat) : Int) - 1 - ((a : Int) + 1) = ((s.extract (a + 1) (e - 1)).size : Nat); omega
  · intro _; show (a : Int) + 1 = ((a + 1 : Nat) : Int); omega
  · show s.extract (a + 1) (e - 1) = s.extract ((a : Int) + 1).toNat (((e : Nat) : Int) - 1).toNat
    congr 1; omega
  · show 1 ≤ 3 ∧ 3 ≤ 7; omega
  · show a + 1 + (s.extract (a + 1) (e - 1)).size ≤ _; omega
set_option maxHeartbeats 1000000 in
theorem tok_ref_link {s : ByteArray} {a : Nat} (ha : a < s.size) (hlt : a < tokEnd s a 2) (hle : tokEnd s a 2 ≤ s.size) (hop : bAt s a = opB 2) (b : Bool) : SpRef s { spOf s ⟨2, a, tokEnd s a 2⟩ with strong := b } := by
  have te : tokEnd s a 2 = lnkEnd s a := by unfold tokEnd; rw [if_neg (by omega), if_neg (by omega), if_pos rfl]
  rw [te] at hlt hle ⊢
  have k1 : pre s a ⟨#[91, 91]⟩ = true := by
    cases h : pre s a ⟨#[91, 91]⟩ with
    | true => rfl
    | false => unfold lnkEnd at hlt; rw [if_neg (by simp [h])] at hlt; omega
  have hz2 : a + 2 ≤ s.size := pre_le k1 (by omega)
  rcases Int.lt_or_le (anyOf (s.extract (a + 2) s.size) brk) 0 with hk2 | hk2
  · rw [lnk_none k1 ha hk2] at hlt; omega
  obtain ⟨k, hk2⟩ := Int.eq_ofNat_of_zero_le hk2
  have hl := lnk_some k1 ha hk2
  by_cases hg : pre s (a + 2 + k) ⟨#[93, 93]⟩ = true ∧ isTgt (cutL (s.extract (a + 2) (a + 2 + k))) = true ∧ (bar (s.extract (a + 2) (a + 2 + k)) < 0 ∨ 0 < (cutR (s.extract (a + 2) (a + 2 + k))).size)
  case neg => rw [hl, if_neg hg] at hlt; omega
  rw [if_pos hg] at hl
  rw [hl] at hle ⊢
  have e2 : a + k + 4 - 2 = a + 2 + k := by omega
  have hz := ext_size (s := s) (a := a + 2) (b := a + 2 + k) (by omega)
  rcases Int.lt_or_le (bar (s.extract (a + 2) (a + 2 + k))) 0 with hb | hb
  · have hL : cutL (s.extract (a + 2) (a + 2 + k)) = s.extract (a + 2) (a + 2 + k) := by unfold cutL; rw [if_neg (by omega)]
    have hR : cutR (s.extract (a + 2) (a + 2 + k)) = ⟨#[]⟩ := by unfold cutR; rw [if_neg (by omega)]
    have hx : ({ spOf s ⟨2, a, a + k + 4⟩ with strong := b } : Sp) = ⟨4, a, a + k + 4, s.extract (a + 2) (a + 2 + k), ⟨#[]⟩, 0, b⟩ := by
      show (⟨4, a, a + k + 4, cutL (s.extract (a + 2) (a + k + 4 - 2)), cutR (s.extract (a + 2) (a + k + 4 - 2)), 0, b⟩ : Sp) = _
      rw [e2, hL, hR]
    rw [hx]
    have f1 : shFrom (⟨4, a, a + k + 4, s.extract (a + 2) (a + 2 + k), ⟨#[]⟩, 0, b⟩ : Sp) = (a : Int) + 2 := by
      unfold shFrom
      rw [if_neg (by simp), if_neg (by simp), if_pos rfl, if_pos (str_size0.2 rfl)]
      show (((a + k + 4 : Nat) : Int)) - 2 - ((s.extract (a + 2) (a + 2 + k)).size : Nat) = _
      omega
    have f2 : shTo (⟨4, a, a + k + 4, s.extract (a + 2) (a + 2 + k), ⟨#[]⟩, 0, b⟩ : Sp) = (a : Int) + k + 2 := by
      unfold shTo
      rw [if_neg (by simp), if_pos rfl]
      show (((a + k + 4 : Nat) : Int)) - 2 = _
      omega
    refine ⟨?_, ?_, ?_, ?_, ?_⟩
    · rw [f1, f2]; show _ = (((s.extract (a + 2) (a + 2 + k)).size : Nat) : Int); omega
    · intro _; rw [f1]; show _ = ((a + 2 : Nat) : Int); omega
    · rw [f1, f2]; show s.extract (a + 2) (a + 2 + k) = _; congr 1; omega
    · show 1 ≤ 4 ∧ 4 ≤ 7; omega
    · show a + 2 + (s.extract (a + 2) (a + 2 + k)).size ≤ _; omega
  · obtain ⟨j, hj⟩ := Int.eq_ofNat_of_zero_le hb
    obtain ⟨c1, c2, c3⟩ := bar_some (by omega) hj
    have hL : cutL (s.extract (a + 2) (a + 2 + k)) = s.extract (a + 2) (a + 2 + j) := by
      unfold cutL; rw [if_pos hb, hj, Int.toNat_natCast, ByteArray.extract_extract]; congr 1; omega
    have hR : cutR (s.extract (a + 2) (a + 2 + k)) = s.extract (a + 2 + j + 1) (a + 2 + k) := by
      unfold cutR; rw [if_pos hb, hj, Int.toNat_natCast, ByteArray.extract_extract, ByteArray.size_extract]; congr 1; omega
    have hzL := ext_size (s := s) (a := a + 2) (b := a + 2 + j) (by omega)
    have hzR := ext_size (s := s) (a := a + 2 + j + 1) (b := a + 2 + k) (by omega)
    have hpos : 0 < (s.extract (a + 2 + j + 1) (a + 2 + k)).size := by
      rcases hg.2.2 with h | h
      · omega
      · rw [hR] at h; exact h
    have hx : ({ spOf s ⟨2, a, a + k + 4⟩ with strong := b } : Sp) = ⟨4, a, a + k + 4, s.extract (a + 2) (a + 2 + j), s.extract (a + 2 + j + 1) (a + 2 + k), 0, b⟩ := by
      show (⟨4, a, a + k + 4, cutL (s.extract (a + 2) (a + k + 4 - 2)), cutR (s.extract (a + 2) (a + k + 4 - 2)), 0, b⟩ : Sp) = _
      rw [e2, hL, hR]
    rw [hx]
    generalize hR' : s.extract (a + 2 + j + 1) (a + 2 + k) = R at *
    have f1 : shFrom (⟨4, a, a + k + 4, s.extract (a + 2) (a + 2 + j), R, 0, b⟩ : Sp) = (a : Int) + 2 + j + 1 := by
      unfold shFrom
      rw [if_neg (by simp), if_neg (by simp), if_pos rfl, if_neg (fun e => by have h0 := str_size0.1 e; have h1 : R.size = 0 := h0; omega)]
      show (((a + k + 4 : Nat) : Int)) - 2 - (R.size : Nat) = _
      omega
    have f2 : shTo (⟨4, a, a + k + 4, s.extract (a + 2) (a + 2 + j), R, 0, b⟩ : Sp) = (a : Int) + k + 2 := by
      unfold shTo
      rw [if_neg (by simp), if_pos rfl]
      show (((a + k + 4 : Nat) : Int)) - 2 = _
      omega
    have g1 : refStr (⟨4, a, a + k + 4, s.extract (a + 2) (a + 2 + j), R, 0, b⟩ : Sp) = R := by
      unfold refStr; rw [if_pos rfl, if_neg (by show ¬ R.size = 0; omega)]
    have g2 : refFrom (⟨4, a, a + k + 4, s.extract (a + 2) (a + 2 + j), R, 0, b⟩ : Sp) = a + 2 + j + 1 := by
      unfold refFrom; rw [if_neg (by simp), if_pos rfl, if_neg (by show ¬ R.size = 0; omega)]
      show a + 2 + (s.extract (a + 2) (a + 2 + j)).size + 1 = _; omega
    refine ⟨?_, ?_, ?_, ?_, ?_⟩
    · rw [f1, f2, g1]; omega
    · intro _; rw [f1, g2]; omega
    · rw [f1, f2, g1, ← hR']; congr 1 <;> omega
    · show 1 ≤ 4 ∧ 4 ≤ 7; omega
    · rw [g1, g2]; omega
set_option maxHeartbeats 1000000 in
theorem tok_ref_rf {s : ByteArray} {a : Nat} (ha : a < s.size) (hlt : a < tokEnd s a 3) (hle : tokEnd s a 3 ≤ s.size) (hop : bAt s a = opB 3) (b : Bool) : SpRef s { spOf s ⟨3, a, tokEnd s a 3⟩ with strong := b } := by
  have te : tokEnd s a 3 = rfEnd s a := by unfold tokEnd; rw [if_neg (by omega), if_neg (by omega), if_neg (by omega), if_pos rfl]
  rw [te] at hlt hle ⊢
  have k1 : pre s a ⟨#[40, 40]⟩ = true := by
    cases h : pre s a ⟨#[40, 40]⟩ with
    | true => rfl
    | false => unfold rfEnd at hlt; rw [if_neg (by simp [h])] at hlt; omega
  have hz2 : a + 2 ≤ s.size := pre_le k1 (by omega)
  have hr := runTo_le (cls := cDigit) hz2
  generalize hn : runTo cDigit s (a + 2) = n at *
  have k2 : pre s n ⟨#[41, 41]⟩ = true ∧ rfEnd s a = n + 2 := by
    unfold rfEnd at hlt ⊢
    rw [if_pos k1, hn] at hlt ⊢
    split
    · rename_i h; rw [if_pos h] at hlt; omega
    · rename_i h
      rw [if_neg h] at hlt
      cases h2 : pre s n ⟨#[41, 41]⟩ with
      | true => exact ⟨rfl, eAfter_yes h2⟩
      | false => rw [eAfter_no h2] at hlt; omega
  rw [k2.2] at hle ⊢
  have hz := ext_size (s := s) (a := a + 2) (b := n) (by omega)
  have t1 : s.extract a (a + 2) = ⟨#[40, 40]⟩ := by
    have t := pre_text k1 (by omega)
    exact t
  have t2 : s.extract n (n + 2) = ⟨#[41, 41]⟩ := by
    have t := pre_text k2.1 (by omega)
    exact t
  have hstr : (⟨#[40, 40]⟩ : ByteArray) ++ s.extract (a + 2) n ++ ⟨#[41, 41]⟩ = s.extract a (n + 2) := by
    have j3 : ∀ p q : ByteArray, p = s.extract a (a + 2) → q = s.extract n (n + 2) → p ++ s.extract (a + 2) n ++ q = s.extract a (n + 2) := by
      intro p q e1 e2
      rw [e1, e2, extract_join s (by omega) (by omega), extract_join s (by omega) (by omega)]
    exact j3 _ _ t1.symm t2.symm
  have hzz := ext_size (s := s) (a := a) (b := n + 2) hle
  have g1 : refStr ({ spOf s ⟨3, a, n + 2⟩ with strong := b } : Sp) = s.extract a (n + 2) := by
    rw [← hstr]
    show (⟨#[40, 40]⟩ : ByteArray) ++ s.extract (a + 2) (n + 2 - 2) ++ ⟨#[41, 41]⟩ = _
    rw [show n + 2 - 2 = n by omega]
  refine ⟨?_, ?_, ?_, ?_, ?_⟩
  · rw [g1]; show ((n + 2 : Nat) : Int) - (a : Int) = _; omega
  · intro _; rfl
  · rw [g1]; rfl
  · show 1 ≤ 5 ∧ 5 ≤ 7; omega
  · rw [g1]; show a + _ ≤ _; omega
set_option maxHeartbeats 1000000 in
theorem tok_ref_tag {s : ByteArray} {a : Nat} (ha : a < s.size) (hlt : a < tokEnd s a 4) (hle : tokEnd s a 4 ≤ s.size) (hop : bAt s a = opB 4) (b : Bool) : SpRef s { spOf s ⟨4, a, tokEnd s a 4⟩ with strong := b } := by
  have h35 : pre s a ⟨#[35]⟩ = true := pre_one.2 hop
  have t1 : s.extract a (a + 1) = ⟨#[35]⟩ := pre_text h35 (by omega)
  generalize tokEnd s a 4 = e at *
  have hzz := ext_size (s := s) (a := a) (b := e) hle
  have g1 : refStr ({ spOf s ⟨4, a, e⟩ with strong := b } : Sp) = s.extract a e := by
    show (⟨#[35]⟩ : ByteArray) ++ s.extract (a + 1) e = _
    rw [← t1, extract_join s (by omega) (by omega)]
  refine ⟨?_, ?_, ?_, ?_, ?_⟩
  · rw [g1]; show ((e : Nat) : Int) - (a : Int) = _; omega
  · intro _; rfl
  · rw [g1]; rfl
  · show 1 ≤ 6 ∧ 6 ≤ 7; omega
  · rw [g1]; show a + _ ≤ _; omega
set_option maxHeartbeats 1000000 in
theorem tok_ref_star {s : ByteArray} {a : Nat} (ha : a < s.size) (hlt : a < tokEnd s a 5) (hle : tokEnd s a 5 ≤ s.size) (hop : bAt s a = opB 5) (b : Bool) : SpRef s { spOf s ⟨5, a, tokEnd s a 5⟩ with strong := b } := by
  generalize tokEnd s a 5 = e at *
  refine ⟨?_, ?_, ?_, ?_, ?_⟩
  · show ((e : Nat) : Int) - (e : Int) = ((0 : Nat) : Int); omega
  · intro h; exact absurd h (by show ¬ 0 < 0; omega)
  · show (⟨#[]⟩ : ByteArray) = s.extract ((e : Int)).toNat ((e : Int)).toNat
    have hz0 : (s.extract ((e : Int)).toNat ((e : Int)).toNat).size = 0 := by rw [ByteArray.size_extract]; omega
    exact (ByteArray.size_eq_zero_iff.1 hz0).symm
  · show 1 ≤ 7 ∧ 7 ≤ 7; omega
  · show a + 0 ≤ _; omega
theorem tok_ref {s : ByteArray} {a k : Nat} (ha : a < s.size) (hk : firstK (hit s a) 6 0 = some k) (b : Bool) : SpRef s { spOf s ⟨k, a, tokEnd s a k⟩ with strong := b } := by
  obtain ⟨hh, h6⟩ := firstK_hit hk
  have hlt := hit_lt hh
  have hle := tokEnd_le (k := k) ha
  have hop : bAt s a = opB k := by unfold hit at hh; simp only [Bool.and_eq_true, decide_eq_true_eq] at hh; exact hh.1
  rcases (by omega : k = 0 ∨ k = 1 ∨ k = 2 ∨ k = 3 ∨ k = 4 ∨ k = 5) with rfl | rfl | rfl | rfl | rfl | rfl
  · exact tok_ref_esc ha hlt hle hop b
  · exact tok_ref_code ha hlt hle hop b
  · exact tok_ref_link ha hlt hle hop b
  · exact tok_ref_rf ha hlt hle hop b
  · exact tok_ref_tag ha hlt hle hop b
  · exact tok_ref_star ha hlt hle hop b
theorem spans_ref (s : ByteArray) : ∀ x ∈ spans s, SpRef s x :=
  spans_all (fun a b n h1 h2 => plain_ref h1 h2) (fun t ht b => by
    obtain ⟨h1, h2, h3⟩ := toksF_hit s s.size 0 t ht
    have := tok_ref h1 h2 b
    rw [← h3] at this
    exact this)

/-! ### Where the bytes come from -/
end Go.Proofs.YticdapkljbillaaGreatDoor
