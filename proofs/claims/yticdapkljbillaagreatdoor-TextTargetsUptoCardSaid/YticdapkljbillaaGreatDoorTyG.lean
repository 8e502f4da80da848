/- The reference: IsTag. -/
import Derived.Test.YticdapkljbillaaGreatDoorTyF
import Derived.WalkKit
import Derived.Lib.Hide
import Derived.Outline
import Derived.Deep.QuietTactic
import Derived.BigQuiet
namespace Go.Proofs.YticdapkljbillaaGreatDoor
open Go.RowKit

theorem cTag_is {c : UInt8} {L D u1 u2 u3 : Bool} (h1 : L = cLetter c) (h2 : D = cDigit c) (h3 : u1 = ((c.toNat : Int) != 95)) (h4 : u2 = ((c.toNat : Int) != 45)) (h5 : u3 = ((c.toNat : Int) != 47)) :
    cTag c = (L || D || !(u1 && u2 && u3)) := by
  unfold cTag
  rw [← h1, ← h2, h3, h4, h5]
  congr 1
  rw [Bool.eq_iff_iff]
  simp
  omega

set_option maxRecDepth 100000 in
set_option maxHeartbeats 4000000 in
theorem refIsTag_any (s : ByteArray) (w : World) (hs : s.size ≤ 4000000000) :
    Calls Tryz.prog 51 #[.string s] w fun e w' => e = .returned (.bool (refTag s)) ∧ w' = w := by
  go_enter Tryz.func51, Tryz.ntmps51
  go_wp2
  go_loop [3, 4] (fun v i => ∃ (k : Nat) (b : Bool), i = .int .i64 k ∧ v = .bool b ∧ Hid (TagRel s k b)) (fun _ i => s.size - (intOf i).toNat)
  case atStart => exact ⟨0, false, rfl, rfl, TagRel.start s⟩
  case round =>
    obtain ⟨k, b, rfl, rfl, HR⟩ := hrel
    by_cases hlt : k < s.size
    · obtain ⟨L, hL⟩ : ∃ L, L = cLetter s[k] := ⟨_, rfl⟩
      obtain ⟨D, hD⟩ : ∃ D, D = cDigit s[k] := ⟨_, rfl⟩
      obtain ⟨u1, h1⟩ : ∃ u, u = ((s[k].toNat : Int) != 95) := ⟨_, rfl⟩
      obtain ⟨u2, h2⟩ : ∃ u, u = ((s[k].toNat : Int) != 45) := ⟨_, rfl⟩
      obtain ⟨u3, h3⟩ : ∃ u, u = ((s[k].toNat : Int) != 47) := ⟨_, rfl⟩
      have HT := Lib.hid (cTag_is hL hD h1 h2 h3)
      have HL := Lib.hid hL
      have HD := Lib.hid hD
      have y1 := h1.symm
      have y2 := h2.symm
      have y3 := h3.symm
      clear hL hD h1 h2 h3
      cases b
      all_goals
        go_wp2_with (first | (go_at_call 50; refine (refLetter_any _ _).mono ?_; rintro e w' ⟨rfl, rfl⟩; rw [← HL.out]) | (go_at_call 49; refine (refDigit_any _ _).mono ?_; rintro e w' ⟨rfl, rfl⟩; rw [← HD.out]))
      all_goals first
        | (go_round
           case rel => exact ⟨k + 1, _, by go_num, rfl, Lib.hid (HR.out.next hlt (by rw [HT.out]; simp [*]) (by rw [← HL.out]; simp [*]))⟩
           case measure => simp [intOf]; omega)
        | (go_ret
           exact ⟨ret_bool (refTag_out hlt (by rw [HT.out]; simp [*])).symm, rfl⟩)
    · obtain ⟨ha, hb⟩ := HR.out.done hlt
      have hF : refTag s = (b && decide (s.size ≤ 100 ∧ bAt s 0 ≠ 47 ∧ bAt s (s.size - 1) ≠ 47)) := by
        unfold refTag; rw [ha, hb]; rfl
      have hex := HR.out.ex
      have HF := Lib.hid hF
      clear hF ha hb HR
      cases b
      · clear hex
        go_wp2
        go_ret
        exact ⟨ret_bool (by rw [HF.out]; rfl), rfl⟩
      · obtain ⟨j, hj, -⟩ := hex rfl
        have q2 : 0 < s.size := by omega
        have q3 : (1 : Int) ≤ s.size := by omega
        have q4 : (s.size : Int) - 1 < s.size := by omega
        have q5 : s.size - 1 < s.size := by omega
        clear hex
        by_cases h1 : s.size ≤ 100
        · have q1 : (s.size : Int) ≤ 100 := by omega
          obtain ⟨u1, h2⟩ : ∃ u, u = ((s[0].toNat : Int) != 47) := ⟨_, rfl⟩
          obtain ⟨u2, h3⟩ : ∃ u, u = ((s[s.size - 1].toNat : Int) != 47) := ⟨_, rfl⟩
          have HE : Hid (refTag s = (u1 && u2)) := Lib.hid (by
            rw [HF.out, h2, h3, bAt_lt q2, bAt_lt q5, Bool.eq_iff_iff]
            simp [h1])
          have y1 := h2.symm
          have y2 := h3.symm
          clear h2 h3 HF
          go_wp2
          all_goals go_ret
          all_goals exact ⟨ret_bool (by rw [HE.out]; simp [*]), rfl⟩
        · have HE : Hid (refTag s = false) := Lib.hid (by rw [HF.out]; simp [h1])
          have q1 : decide ((s.size : Int) ≤ 100) = false := by simp; omega
          clear HF
          go_wp2
          go_ret
          exact ⟨ret_bool HE.out.symm, rfl⟩
theorem run_all {cls : UInt8 → Bool} {s : ByteArray} : runTo cls s 0 = s.size ↔ s.data.toList.all cls = true := by
  unfold runTo
  rw [List.drop_zero, Nat.zero_add]
  have e := Lib.size_eq s
  rw [e]
  clear e
  generalize s.data.toList = l
  induction l with
  | nil => simp
  | cons c l ih =>
    by_cases h : cls c = true
    · rw [List.takeWhile_cons_of_pos h]
      simp only [List.length_cons, List.all_cons, h, Bool.true_and]
      exact ⟨fun h => ih.1 (by omega), fun h => by have := ih.2 h; omega⟩
    · rw [List.takeWhile_cons_of_neg h]
      simp [h]
theorem run_some {cls : UInt8 → Bool} {s : ByteArray} : runTo (fun c => !cls c) s 0 < s.size ↔ s.data.toList.any cls = true := by
  have h1 := run_all (cls := fun c => !cls c) (s := s)
  have h2 := (runTo_le (cls := fun c => !cls c) (s := s) (a := 0) (Nat.zero_le _)).2
  have h3 : s.data.toList.any cls = true ↔ ¬ s.data.toList.all (fun c => !cls c) = true := by
    rw [List.any_eq_true, List.all_eq_true]
    constructor
    · rintro ⟨c, hc, h⟩ hall
      have := hall c hc
      simp [h] at this
    · intro hall
      simp only [Bool.not_eq_true', Classical.not_forall] at hall
      obtain ⟨c, hc, h⟩ := hall
      exact ⟨c, hc, by simpa using h⟩
  rw [h3, ← h1]; omega
/-- Of a run of bytes that a tag can have, both say the same. -/
theorem refTag_run {t : ByteArray} (h : t.data.toList.all cTag = true) : refTag t = isTagRun t := by
  unfold refTag isTagRun
  rw [h, Bool.true_and, Bool.eq_iff_iff]
  simp only [Bool.and_eq_true, decide_eq_true_eq]
  rw [← run_some]
  constructor
  · rintro ⟨h1, h2, h3, h4⟩
    exact ⟨by omega, h2, h3, h4, h1⟩
  · rintro ⟨h1, h2, h3, h4, h5⟩
    exact ⟨h5, h2, h3, h4⟩
end Go.Proofs.YticdapkljbillaaGreatDoor
