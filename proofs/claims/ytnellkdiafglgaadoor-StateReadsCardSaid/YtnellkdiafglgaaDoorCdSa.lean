/- Cards: what a word reads as a number (pure): both sides' tests. -/
import Derived.Test.YtnellkdiafglgaaDoorCdRa
namespace Go.Proofs.YtnellkdiafglgaaDoor
open Go.RowKit Go.Shelf Go.Joins

def isDig (b : UInt8) : Prop := 48 ≤ b.toNat ∧ b.toNat ≤ 57
instance (b : UInt8) : Decidable (isDig b) := by unfold isDig; infer_instance
def coreOf (l : List UInt8) : List UInt8 := Lib.trimPrefix l [45]
/-- The number that a word is. -/
def wordE (l : List UInt8) : Option Int :=
  if (coreOf l).length ≤ 9 then (match Lib.atoi l with | some n => if Lib.itoa n = l then some n else none | none => none) else none
/-- The reference's test. -/
def digBad (l : List UInt8) : Prop :=
  coreOf l = [] ∨ 9 < (coreOf l).length ∨ (¬ ∀ b ∈ coreOf l, isDig b) ∨ (1 < (coreOf l).length ∧ (coreOf l)[0]? = some 48) ∨ (coreOf l = [48] ∧ l ≠ [48])
theorem digitVal_some {b : UInt8} (h : isDig b) : Lib.digitVal b = some (b.toNat - 48) := by
  unfold Lib.digitVal
  exact if_pos h
theorem decFrom_all : ∀ (l : List UInt8) (acc : Nat), (∀ b ∈ l, isDig b) → ∃ u, Lib.decFrom acc l = some u ∧ acc ≤ u
  | [], acc, _ => ⟨acc, rfl, Nat.le_refl _⟩
  | b :: l, acc, h => by
    obtain ⟨u, hu, hle⟩ := decFrom_all l (acc * 10 + (b.toNat - 48)) fun c hc => h c (List.mem_cons_of_mem _ hc)
    refine ⟨u, ?_, by omega⟩
    rw [Lib.decFrom, digitVal_some (h b List.mem_cons_self)]
    exact hu
theorem dec_pos {b : UInt8} {r : List UInt8} {u : Nat} (h : ∀ c ∈ b :: r, isDig c) (hb : b ≠ 48) (hu : Lib.decFrom 0 (b :: r) = some u) : 1 ≤ u := by
  have hd := h b List.mem_cons_self
  rw [Lib.decFrom, digitVal_some hd] at hu
  obtain ⟨v, hv, hle⟩ := decFrom_all r (0 * 10 + (b.toNat - 48)) fun c hc => h c (List.mem_cons_of_mem _ hc)
  have e : some v = some u := hv.symm.trans hu
  cases e
  have : b.toNat ≠ 48 := fun e => hb (UInt8.toNat.inj (by simpa using e))
  unfold isDig at hd
  omega
theorem dec_back : ∀ (n : Nat) (l : List UInt8), l.length = n → (∀ b ∈ l, isDig b) → l ≠ [] → (l = [48] ∨ l[0]? ≠ some 48) → ∀ u, Lib.decFrom 0 l = some u → Lib.decDigits u = l := by
  intro n
  induction n with
  | zero => intro l hn _ hne; exact absurd (List.length_eq_zero_iff.1 hn) hne
  | succ n ih =>
    intro l hn hd hne hz u hu
    obtain ⟨r, b, rfl⟩ : ∃ r b, l = r ++ [b] := ⟨l.dropLast, l.getLast hne, (List.dropLast_concat_getLast hne).symm⟩
    have hb : isDig b := hd b (by simp)
    have hr : ∀ c ∈ r, isDig c := fun c hc => hd c (by simp [hc])
    have hbv : UInt8.ofNat (48 + (b.toNat - 48)) = b := by
      have : 48 + (b.toNat - 48) = b.toNat := by unfold isDig at hb; omega
      rw [this]
      exact UInt8.ofNat_toNat
    by_cases hr0 : r = []
    · subst hr0
      rw [List.nil_append, Lib.decFrom, digitVal_some hb] at hu
      have e : u = b.toNat - 48 := by
        have := Option.some.inj hu
        omega
      have hlt : u < 10 := by unfold isDig at hb; omega
      rw [Lib.decDigits, dif_pos hlt, e, hbv]
      rfl
    · obtain ⟨v, hv, _⟩ := decFrom_all r 0 hr
      have hu2 := decFrom_app r [b] 0 v hv
      rw [hu] at hu2
      rw [Lib.decFrom, digitVal_some hb] at hu2
      have e : u = v * 10 + (b.toNat - 48) := Option.some.inj hu2
      have hz' : r[0]? ≠ some 48 := by
        rcases hz with h | h
        · exfalso
          have h3 : (r ++ [b]).length = 1 := by rw [h]; rfl
          rw [List.length_append, List.length_singleton] at h3
          have h2 := List.length_pos_iff.2 hr0
          omega
        · rwa [List.getElem?_append_left (List.length_pos_iff.2 hr0)] at h
      have hv1 : 1 ≤ v := by
        cases r with
        | nil => exact absurd rfl hr0
        | cons c r =>
          refine dec_pos hr ?_ hv
          intro e
          rw [e] at hz'
          exact hz' rfl
      have ih' := ih r (by simpa using hn) hr hr0 (Or.inr hz') v hv
      have hlt : ¬ u < 10 := by omega
      unfold isDig at hb
      have e1 : u / 10 = v := by omega
      have e2 : u % 10 = b.toNat - 48 := by omega
      rw [Lib.decDigits, dif_neg hlt, e1, e2, ih', hbv]
theorem dec_head : ∀ (u : Nat), 1 ≤ u → (Lib.decDigits u)[0]? ≠ some 48
  | u, h => by
    rw [Lib.decDigits]
    split
    · rename_i hl
      intro e
      have e2 : UInt8.ofNat (48 + u) = 48 := Option.some.inj e
      have := digit_byte hl
      rw [e2] at this
      simp at this
      omega
    · rename_i hl
      have ih := dec_head (u / 10) (by omega)
      have hne := List.length_pos_iff.2 (dec_facts (u / 10)).2.2
      rwa [List.getElem?_append_left hne]
termination_by u => u
decreasing_by omega
theorem core_minus (r : List UInt8) : coreOf (45 :: r) = r := by
  unfold coreOf Lib.trimPrefix Lib.hasPrefix
  simp [List.isPrefixOf]
theorem core_other {b : UInt8} (r : List UInt8) (h : b ≠ 45) : coreOf (b :: r) = b :: r := by
  unfold coreOf Lib.trimPrefix Lib.hasPrefix
  have : ([45] : List UInt8).isPrefixOf (b :: r) = false := by simp [List.isPrefixOf, Ne.symm h]
  rw [this]
  rfl
theorem core_nil : coreOf [] = [] := rfl
theorem dig_ne {b : UInt8} (h : isDig b) : b ≠ 45 ∧ b ≠ 43 := by
  constructor
  · intro e; subst e; revert h; decide
  · intro e; subst e; revert h; decide
theorem decNat_of {l : List UInt8} {u : Nat} (hne : l ≠ []) (h : Lib.decFrom 0 l = some u) : Lib.decNat l = some u := by
  unfold Lib.decNat
  rw [if_neg (by simpa using hne), h]
theorem wordE_good {l : List UInt8} (h : ¬ digBad l) : ∃ n, Lib.atoi l = some n ∧ wordE l = some n := by
  unfold digBad at h
  simp only [not_or, Decidable.not_not, not_and] at h
  obtain ⟨h1, h2, h3, h4, h5⟩ := h
  have hlen : (coreOf l).length ≤ 9 := by omega
  have key : ∀ n, Lib.atoi l = some n → Lib.itoa n = l → ∃ n, Lib.atoi l = some n ∧ wordE l = some n := by
    intro n ha hi
    refine ⟨n, ha, ?_⟩
    unfold wordE
    rw [if_pos hlen, ha]
    simp only [hi, if_true]
  have hz : coreOf l = [48] ∨ (coreOf l)[0]? ≠ some 48 := by
    by_cases h6 : 1 < (coreOf l).length
    · exact Or.inr (h4 h6)
    · by_cases h7 : (coreOf l)[0]? = some 48
      · left
        have h8 := List.length_pos_iff.2 h1
        have h9 : (coreOf l).length = 1 := by omega
        obtain ⟨a, ha⟩ := List.length_eq_one_iff.1 h9
        rw [ha] at h7 ⊢
        simpa using h7
      · exact Or.inr h7
  obtain ⟨u, hu, _⟩ := decFrom_all (coreOf l) 0 h3
  have hb := dec_back _ (coreOf l) rfl h3 h1 hz u hu
  cases l with
  | nil => exact absurd core_nil h1
  | cons b r =>
    by_cases h45 : b = 45
    · subst h45
      rw [core_minus] at *
      refine key (-(u : Int)) ?_ ?_
      · rw [Lib.atoi, if_pos (by rfl), decNat_of h1 hu]
        rfl
      · have hu1 : 1 ≤ u := by
          rcases hz with hz | hz
          · exact absurd (h5 hz) (by simp)
          · cases r with
            | nil => exact absurd rfl h1
            | cons c r =>
              refine dec_pos h3 ?_ hu
              intro e
              rw [e] at hz
              exact hz rfl
        rw [Lib.itoa_neg u hu1, hb]
    · rw [core_other r h45] at *
      have hd := dig_ne (h3 b List.mem_cons_self)
      refine key (u : Int) ?_ ?_
      · rw [Lib.atoi, if_neg (by simpa using h45), if_neg (by simpa using hd.2), decNat_of h1 hu]
        rfl
      · rw [Lib.itoa_nonneg, hb]
theorem wordE_bad {l : List UInt8} (h : digBad l) : wordE l = none := by
  cases hw : wordE l with
  | none => rfl
  | some n =>
    exfalso
    unfold wordE at hw
    split at hw
    · rename_i hlen
      cases ha : Lib.atoi l with
      | none => rw [ha] at hw; cases hw
      | some m =>
        rw [ha] at hw
        simp only at hw
        split at hw
        · rename_i hi
          subst hi
          have hne : ∀ u, Lib.decDigits u ≠ [] := fun u => (dec_facts u).2.2
          have hdd : ∀ u, ∀ b ∈ Lib.decDigits u, isDig b := fun u => (dec_facts u).2.1
          have hlead : ∀ u, ¬ (1 < (Lib.decDigits u).length ∧ (Lib.decDigits u)[0]? = some 48) := by
            intro u hh
            by_cases hu : 1 ≤ u
            · exact dec_head u hu hh.2
            · have : u = 0 := by omega
              subst this
              have h0 : Lib.decDigits 0 = [48] := by rw [Lib.decDigits]; rfl
              rw [h0] at hh
              exact absurd hh.1 (by decide)
          unfold Lib.itoa at h hlen
          split at h
          · rename_i hneg
            rw [if_pos hneg, core_minus] at hlen
            unfold digBad at h
            rw [core_minus] at h
            rcases h with h | h | h | h | h
            · exact hne _ h
            · omega
            · exact h (hdd _)
            · exact hlead _ h
            · have := dec_head m.natAbs (by omega)
              rw [h.1] at this
              exact this rfl
          · rename_i hneg
            rw [if_neg hneg] at hlen
            have hcore : coreOf (Lib.decDigits m.toNat) = Lib.decDigits m.toNat := by
              have h1 := hne m.toNat
              have h2 := hdd m.toNat
              generalize Lib.decDigits m.toNat = L at h1 h2
              cases L with
              | nil => exact absurd rfl h1
              | cons b r => exact core_other r (dig_ne (h2 b List.mem_cons_self)).1
            unfold digBad at h
            rw [hcore] at h hlen
            rcases h with h | h | h | h | h
            · exact hne _ h
            · omega
            · exact h (hdd _)
            · exact hlead _ h
            · exact h.2 h.1
        · cases hw
    · cases hw
end Go.Proofs.YtnellkdiafglgaaDoor
