/- The reference: strings of bytes of a class. -/
import Derived.Test.YticdapkljbillaaGreatDoorTyE
import Derived.WalkKit
import Derived.Lib.Hide
import Derived.Outline
import Derived.Deep.QuietTactic
import Derived.BigQuiet
namespace Go.Proofs.YticdapkljbillaaGreatDoor
open Go.RowKit

def cLow (c : UInt8) : Bool := decide ((c.toNat : Int) < 32)
def lows (s : ByteArray) : Bool := s.data.toList.any cLow
theorem lows_true {s : ByteArray} {k : Nat} (hk : k < s.size) (h : cLow s[k] = true) : lows s = true := by
  unfold lows
  rw [List.any_eq_true]
  exact ⟨s[k], by rw [ByteArray.getElem_eq_getElem_data]; exact Array.getElem_mem_toList _, h⟩
theorem lows_false {s : ByteArray} (h : ∀ j (hj : j < s.size), cLow s[j] = false) : lows s = false := by
  unfold lows
  rw [List.any_eq_false]
  intro c hc
  obtain ⟨j, hj, rfl⟩ := List.getElem_of_mem hc
  have hj2 : j < s.size := by rw [Array.length_toList] at hj; exact hj
  have := h j hj2
  rw [ByteArray.getElem_eq_getElem_data] at this
  simpa using this

set_option maxHeartbeats 1000000 in
theorem refControls_any (s : ByteArray) (w : World) (hs : s.size ≤ 9223372036854775807) :
    Calls Tryz.prog 15 #[.string s] w fun e w' => e = .returned (.bool (lows s)) ∧ w' = w := by
  go_enter Tryz.func15, Tryz.ntmps15
  go_wp2
  go_loop [3] (fun i => ∃ k : Nat, k ≤ s.size ∧ i = .int .i64 k ∧ Hid (∀ j (hj : j < s.size), j < k → cLow s[j] = false)) (fun i => s.size - (intOf i).toNat)
  case atStart => exact ⟨0, Nat.zero_le _, rfl, fun j _ hj => by omega⟩
  case round =>
    obtain ⟨k, hk, rfl, hall⟩ := hrel
    by_cases hlt : k < s.size
    · by_cases h1 : (s[k].toNat : Int) < 32
      · have hb : lows s = true := lows_true hlt (decide_eq_true h1)
        have HB := Lib.hid hb
        clear hb
        go_wp2
        go_ret
        exact ⟨ret_bool HB.out.symm, rfl⟩
      · have hb : cLow s[k] = false := decide_eq_false h1
        have HB := Lib.hid hb
        clear hb
        go_wp2
        go_round
        case rel => exact ⟨k + 1, by omega, by go_num, fun j hj hjk => by
          rcases Nat.lt_succ_iff_lt_or_eq.1 hjk with h | rfl
          · exact hall.out j hj h
          · exact HB.out⟩
        case measure => simp [intOf]; omega
    · have hb : lows s = false := lows_false fun j hj => hall.out j hj (by omega)
      have HB := Lib.hid hb
      clear hb
      go_wp2
      go_ret
      exact ⟨ret_bool HB.out.symm, rfl⟩

def refTag (s : ByteArray) : Bool := s.data.toList.all cTag && (s.data.toList.any cLetter && decide (s.size ≤ 100 ∧ bAt s 0 ≠ 47 ∧ bAt s (s.size - 1) ≠ 47))
theorem mem_at {s : ByteArray} {k : Nat} (hk : k < s.size) : s[k] ∈ s.data.toList := by rw [ByteArray.getElem_eq_getElem_data]; exact Array.getElem_mem_toList _
theorem at_mem {s : ByteArray} {c : UInt8} (h : c ∈ s.data.toList) : ∃ (k : Nat) (hk : k < s.size), s[k] = c := by
  obtain ⟨j, hj, rfl⟩ := List.getElem_of_mem h
  have hj2 : j < s.size := by rw [Array.length_toList] at hj; exact hj
  exact ⟨j, hj2, by rw [ByteArray.getElem_eq_getElem_data]; rfl⟩
theorem refTag_out {s : ByteArray} {k : Nat} (hk : k < s.size) (h : cTag s[k] = false) : refTag s = false := by
  have : s.data.toList.all cTag = false := by
    rw [List.all_eq_false]
    exact ⟨_, mem_at hk, by simp [h]⟩
  unfold refTag
  rw [this]
  rfl
theorem all_tag {s : ByteArray} (h : ∀ j (hj : j < s.size), cTag s[j] = true) : s.data.toList.all cTag = true := by
  rw [List.all_eq_true]
  intro c hc
  obtain ⟨j, hj, rfl⟩ := at_mem hc
  exact h j hj
theorem any_letter {s : ByteArray} {j : Nat} (hj : j < s.size) (h : cLetter s[j] = true) : s.data.toList.any cLetter = true := by
  rw [List.any_eq_true]
  exact ⟨_, mem_at hj, h⟩
theorem no_letter {s : ByteArray} (h : ∀ j (hj : j < s.size), cLetter s[j] = false) : s.data.toList.any cLetter = false := by
  rw [List.any_eq_false]
  intro c hc
  obtain ⟨j, hj, rfl⟩ := at_mem hc
  simp [h j hj]

theorem cTag_other {c : UInt8} (hL : cLetter c = false) (hD : cDigit c = false) : cTag c = true ↔ ((c.toNat : Int) = 95 ∨ (c.toNat : Int) = 45 ∨ (c.toNat : Int) = 47) := by
  unfold cTag
  rw [hL, hD, Bool.false_or, Bool.false_or, decide_eq_true_eq]

/-- What is known of the first k bytes. -/
structure TagRel (s : ByteArray) (k : Nat) (b : Bool) : Prop where
  le : k ≤ s.size
  all : ∀ j (hj : j < s.size), j < k → cTag s[j] = true
  some_ : ∀ j (hj : j < s.size), j < k → cLetter s[j] = true → b = true
  ex : b = true → ∃ j, ∃ (hj : j < s.size), j < k ∧ cLetter s[j] = true
theorem TagRel.start (s : ByteArray) : TagRel s 0 false := ⟨Nat.zero_le _, fun j _ hj => by omega, fun j _ hj => by omega, fun h => by cases h⟩
theorem TagRel.next {s : ByteArray} {k : Nat} {b b' : Bool} (h : TagRel s k b) (hk : k < s.size) (hT : cTag s[k] = true) (hb : b' = (b || cLetter s[k])) : TagRel s (k + 1) b' := by
  refine ⟨by omega, fun j hj hjk => ?_, fun j hj hjk hc => ?_, fun hb2 => ?_⟩
  · rcases Nat.lt_succ_iff_lt_or_eq.1 hjk with h1 | rfl
    · exact h.all j hj h1
    · exact hT
  · rcases Nat.lt_succ_iff_lt_or_eq.1 hjk with h1 | rfl
    · rw [hb, h.some_ j hj h1 hc]; rfl
    · rw [hb, hc]; cases b <;> rfl
  · rw [hb] at hb2
    by_cases h1 : b = true
    · obtain ⟨j, hj, h2, h3⟩ := h.ex h1
      exact ⟨j, hj, by omega, h3⟩
    · have h1' : b = false := by simpa using h1
      rw [h1'] at hb2
      exact ⟨k, hk, Nat.lt_succ_self k, by simpa using hb2⟩
theorem TagRel.done {s : ByteArray} {k : Nat} {b : Bool} (h : TagRel s k b) (hk : ¬ k < s.size) : s.data.toList.all cTag = true ∧ s.data.toList.any cLetter = b := by
  refine ⟨all_tag fun j hj => h.all j hj (by omega), ?_⟩
  cases hb : b with
  | true =>
    obtain ⟨j, hj, _, h2⟩ := h.ex hb
    exact any_letter hj h2
  | false =>
    refine no_letter fun j hj => ?_
    cases hc : cLetter s[j] with
    | false => rfl
    | true => have := h.some_ j hj (by omega) hc; rw [hb] at this; cases this

end Go.Proofs.YticdapkljbillaaGreatDoor
