/- Cards: numbers as words and back; words joined and cut (pure). -/
import Derived.Test.YtnellkdiafglgaaDoorCdV
import Derived.Lib.Atoi
import Derived.Lib.SplitLaws
import Derived.Lib.ItoaMem
namespace Go.Proofs.YtnellkdiafglgaaDoor
open Go.RowKit Go.Shelf Go.Joins

theorem decFrom_app : ∀ (a c : List UInt8) (acc m : Nat), Lib.decFrom acc a = some m → Lib.decFrom acc (a ++ c) = Lib.decFrom m c
  | [], c, acc, m, h => by
    rw [Lib.decFrom] at h
    cases h
    rfl
  | b :: a, c, acc, m, h => by
    rw [List.cons_append, Lib.decFrom]
    rw [Lib.decFrom] at h
    cases hd : Lib.digitVal b with
    | none => rw [hd] at h; cases h
    | some d =>
      rw [hd] at h
      exact decFrom_app a c _ m h
theorem digit_byte {d : Nat} (h : d < 10) : (UInt8.ofNat (48 + d)).toNat = 48 + d := by
  rw [UInt8.toNat_ofNat']; omega
theorem digitVal_byte {d : Nat} (h : d < 10) : Lib.digitVal (UInt8.ofNat (48 + d)) = some d := by
  unfold Lib.digitVal
  rw [digit_byte h, if_pos (by omega)]
  congr 1
  omega
theorem dec_facts : ∀ (u : Nat), Lib.decFrom 0 (Lib.decDigits u) = some u ∧ (∀ b ∈ Lib.decDigits u, 48 ≤ b.toNat ∧ b.toNat ≤ 57) ∧ Lib.decDigits u ≠ []
  | u => by
    rw [Lib.decDigits]
    split
    · rename_i h
      refine ⟨?_, ?_, by simp⟩
      · rw [Lib.decFrom, digitVal_byte h]
        simp [Lib.decFrom]
      · intro b hb
        rw [List.mem_singleton] at hb
        rw [hb, digit_byte h]
        omega
    · rename_i h
      obtain ⟨h1, h2, h3⟩ := dec_facts (u / 10)
      have hm : u % 10 < 10 := Nat.mod_lt _ (by omega)
      refine ⟨?_, ?_, by simp⟩
      · rw [decFrom_app _ _ _ _ h1, Lib.decFrom, digitVal_byte hm]
        simp only [Lib.decFrom]
        congr 1
        omega
      · intro b hb
        rcases List.mem_append.1 hb with hb | hb
        · exact h2 b hb
        · rw [List.mem_singleton] at hb
          rw [hb, digit_byte hm]
          omega
termination_by u => u
decreasing_by omega
theorem decNat_digits (u : Nat) : Lib.decNat (Lib.decDigits u) = some u := by
  obtain ⟨h1, _, h3⟩ := dec_facts u
  unfold Lib.decNat
  rw [if_neg (by simpa using h3), h1]
theorem atoi_itoa (n : Int) : Lib.atoi (Lib.itoa n) = some n := by
  unfold Lib.itoa
  split
  · rename_i h
    rw [Lib.atoi]
    rw [if_pos (by rfl), decNat_digits]
    simp only [Option.map_some]
    congr 1
    omega
  · rename_i h
    obtain ⟨_, h2, h3⟩ := dec_facts n.toNat
    have hd := decNat_digits n.toNat
    generalize Lib.decDigits n.toNat = l at h2 h3 hd
    cases l with
    | nil => exact absurd rfl h3
    | cons b r =>
      have hb := h2 b List.mem_cons_self
      rw [Lib.atoi, if_neg, if_neg, hd]
      · simp only [Option.map_some]
        congr 1
        omega
      · intro e
        have := beq_iff_eq.1 e
        subst this
        simp at hb
      · intro e
        have := beq_iff_eq.1 e
        subst this
        simp at hb
theorem itoa_no32 (n : Int) : ∀ b ∈ Lib.itoa n, b ≠ 32 := by
  intro b hb e
  subst e
  unfold Lib.itoa at hb
  split at hb
  · rcases List.mem_cons.1 hb with h | h
    · exact absurd h (by decide)
    · have := (dec_facts _).2.1 _ h
      simp at this
  · have := (dec_facts _).2.1 _ hb
    simp at this
theorem itoa_len {n : Int} (h0 : -1 ≤ n) (h1 : n ≤ 1000000) : (Lib.itoa n).length ≤ 8 := by
  have hk : ∀ k u : Nat, u < 10 ^ (k + 1) → Lib.nDigits u ≤ k + 1 := by
    intro k
    induction k with
    | zero => intro u hu; rw [Lib.nDigits_small (by simpa using hu)]; exact Nat.le_refl _
    | succ k ih =>
      intro u hu
      by_cases h : u < 10
      · rw [Lib.nDigits_small h]; omega
      · rw [Lib.nDigits_big h]
        have : u / 10 < 10 ^ (k + 1) := by
          rw [Nat.div_lt_iff_lt_mul (by omega)]
          rw [Nat.pow_succ] at hu
          exact hu
        have := ih _ this
        omega
  unfold Lib.itoa
  split
  · rw [List.length_cons, Lib.decDigits_length]
    have := hk 6 n.natAbs (by omega)
    omega
  · rw [Lib.decDigits_length]
    have := hk 6 n.toNat (by omega)
    omega
/-! ### Words joined and cut -/
theorem join_two (x y : List UInt8) (r : List (List UInt8)) : Lib.join (x :: y :: r) [32] = x ++ 32 :: Lib.join (y :: r) [32] := by
  rw [Lib.join_cons, Lib.join_cons, Lib.joinTail, Lib.joinTail]
  simp
theorem index_word : ∀ (x r : List UInt8), (∀ b ∈ x, b ≠ 32) → Lib.index (x ++ 32 :: r) [32] = (x.length : Int)
  | [], r, _ => by rw [List.nil_append, Lib.index]; simp [List.isPrefixOf]
  | b :: x, r, h => by
    have hb : b ≠ 32 := h b List.mem_cons_self
    have ih := index_word x r fun c hc => h c (List.mem_cons_of_mem _ hc)
    have hp : ([32] : List UInt8).isPrefixOf (b :: (x ++ 32 :: r)) = false := by simp [List.isPrefixOf, Ne.symm hb]
    rw [List.cons_append, Lib.index, hp, ih]
    have : ((x.length : Int) == -1) = false := by rw [beq_eq_false_iff_ne]; omega
    simp [this]
theorem count_words : ∀ (r : List (List UInt8)) (x : List UInt8), (∀ y ∈ x :: r, ∀ b ∈ y, b ≠ 32) → Lib.count (Lib.join (x :: r) [32]) [32] = r.length
  | [], x, h => by
    rw [Lib.join_one, Lib.count_one, List.length_nil, List.count_eq_zero]
    intro hm
    exact h x List.mem_cons_self 32 hm rfl
  | y :: r, x, h => by
    have ih := count_words r y fun z hz => h z (List.mem_cons_of_mem _ hz)
    rw [Lib.count_one] at ih
    rw [join_two, Lib.count_one, List.count_append, List.count_cons, ih]
    have : x.count 32 = 0 := by
      rw [List.count_eq_zero]
      intro hm
      exact h x List.mem_cons_self 32 hm rfl
    rw [this]
    simp
theorem split_words : ∀ (r : List (List UInt8)) (x : List UInt8), (∀ y ∈ x :: r, ∀ b ∈ y, b ≠ 32) → Lib.splitK [32] 0 r.length (Lib.join (x :: r) [32]) = x :: r
  | [], x, _ => by rw [List.length_nil, Lib.splitK, Lib.join_one]
  | y :: r, x, h => by
    have ih := split_words r y fun z hz => h z (List.mem_cons_of_mem _ hz)
    have hi := index_word x (Lib.join (y :: r) [32]) (h x List.mem_cons_self)
    rw [join_two, List.length_cons, Lib.splitK, hi]
    have : ((x.length : Int) == -1) = false := by rw [beq_eq_false_iff_ne]; omega
    rw [if_neg (by rw [this]; decide), Int.toNat_natCast]
    have e1 : (x ++ 32 :: Lib.join (y :: r) [32]).take (x.length + 0) = x := by simp
    have e2 : (x ++ 32 :: Lib.join (y :: r) [32]).drop (x.length + [(32 : UInt8)].length) = Lib.join (y :: r) [32] := by
      rw [← List.drop_drop]
      simp
    rw [e1, e2, ih]
theorem words_no32 (x : StV) : ∀ y ∈ (wordsL x).map (·.data.toList), ∀ b ∈ y, b ≠ 32 := by
  intro y hy
  simp only [wordsL, List.map_map, List.mem_map, Function.comp_apply] at hy
  obtain ⟨n, _, rfl⟩ := hy
  exact itoa_no32 n
theorem words_cons (x : StV) : ∃ y r, (wordsL x).map (·.data.toList) = y :: r ∧ r.length = 8 := ⟨_, _, rfl, rfl⟩
theorem text_count (x : StV) : Lib.countB (textOf x) ⟨#[32]⟩ = 8 := by
  obtain ⟨y, r, h, hl⟩ := words_cons x
  have hn := words_no32 x
  unfold Lib.countB textOf
  simp only [h] at hn ⊢
  rw [← hl]
  exact count_words r y hn
theorem text_split (x : StV) : Lib.splitB ⟨#[32]⟩ 0 8 (textOf x) = wordsL x := by
  obtain ⟨y, r, h, hl⟩ := words_cons x
  have hn := words_no32 x
  have hs := Lib.splitB_data ⟨#[32]⟩ 0 8 (textOf x)
  have e : Lib.splitK [32] 0 8 (textOf x).data.toList = (wordsL x).map (·.data.toList) := by
    unfold textOf
    simp only [h] at hn ⊢
    rw [← hl]
    exact split_words r y hn
  have hd : (⟨#[32]⟩ : ByteArray).data.toList = [32] := rfl
  rw [hd, e] at hs
  refine (List.map_inj_right ?_).1 hs
  intro a c hac
  exact ByteArray.ext (by
    rw [← Array.toList_inj]
    exact hac)
end Go.Proofs.YtnellkdiafglgaaDoor
