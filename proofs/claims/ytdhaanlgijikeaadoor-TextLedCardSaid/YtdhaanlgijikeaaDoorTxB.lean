/- Package text, part 2: where tokens end (marks, escapes, code, targets, tags). -/
import Derived.Test.YtdhaanlgijikeaaDoorTxA
import Derived.Test.YtdhaanlgijikeaaDoorShelf
import Derived.WalkKit
import Derived.Lib.Hide
import Derived.Outline
namespace Go.Proofs.YtdhaanlgijikeaaDoor
open Go.RowKit

def pre (s : ByteArray) (a : Nat) (m : ByteArray) : Bool := Lib.hasPrefix (s.extract a s.size).data.toList m.data.toList
def eAfter (s : ByteArray) (a : Nat) (m : ByteArray) : Nat := if pre s a m = true then a + m.size else 0

set_option maxHeartbeats 1000000 in
theorem endAfter_any (s m : ByteArray) (a : Int) (w : World) (hs : s.size ≤ 140737488355328) (hm : m.size ≤ 100) (h0 : 0 ≤ a) (ha : a ≤ s.size) :
    Calls Tryd.prog 35 #[.string s, .int .i64 a, .string m] w fun e w' => e = .returned (.int .i64 (eAfter s a.toNat m)) ∧ w' = w := by
  obtain ⟨a, rfl⟩ := Int.eq_ofNat_of_zero_le h0
  simp only [Int.toNat_natCast]
  have h1 : a ≤ s.size := by omega
  rcases hp : pre s a m with _ | _
  · have HP := Lib.hid hp
    have HE := Lib.hid (show eAfter s a m = 0 by unfold eAfter; rw [hp]; rfl)
    clear hp
    go_enter Tryd.func35, Tryd.ntmps35
    go_wp2_with (go_at_call 45; refine (Tryd.strings_HasPrefix (s.extract a s.size) m _).mono ?_; rintro e w' ⟨rfl, rfl⟩; rw [show Lib.hasPrefix (s.extract a s.size).data.toList m.data.toList = false from HP.out])
    go_ret
    exact ⟨ret_int (by rw [HE.out]; rfl), rfl⟩
  · have HP := Lib.hid hp
    have HE := Lib.hid (show eAfter s a m = a + m.size by unfold eAfter; rw [hp]; rfl)
    clear hp
    go_enter Tryd.func35, Tryd.ntmps35
    go_wp2_with (go_at_call 45; refine (Tryd.strings_HasPrefix (s.extract a s.size) m _).mono ?_; rintro e w' ⟨rfl, rfl⟩; rw [show Lib.hasPrefix (s.extract a s.size).data.toList m.data.toList = true from HP.out])
    go_ret
    exact ⟨ret_int (by rw [HE.out]; omega), rfl⟩

/-- The byte at a place, -1 behind the end. -/
def bAt (s : ByteArray) (i : Nat) : Int := if h : i < s.size then (s[i].toNat : Int) else -1
theorem bAt_lt {s : ByteArray} {i : Nat} (h : i < s.size) : bAt s i = (s[i].toNat : Int) := by unfold bAt; rw [dif_pos h]

def escEnd (s : ByteArray) (a : Nat) : Nat := if h : a + 1 < s.size then (if cPunct s[a + 1] = true then a + 2 else 0) else 0

set_option maxHeartbeats 1000000 in
theorem escapeEnd_any (s : ByteArray) (a : Nat) (w : World) (hs : s.size ≤ 140737488355328) (ha : a < s.size) :
    Calls Tryd.prog 30 #[.string s, .int .i64 a] w fun e w' => e = .returned (.int .i64 (escEnd s a)) ∧ w' = w := by
  by_cases h1 : a + 1 < s.size
  · have q0 : ((a : Int) + 1 == (s.size : Int)) = false := by simp; omega
    rcases hp : cPunct s[a + 1] with _ | _
    · have HE := Lib.hid (show escEnd s a = 0 by unfold escEnd; rw [dif_pos h1, hp]; rfl)
      have HP := Lib.hid hp
      clear hp
      go_enter Tryd.func30, Tryd.ntmps30
      go_wp2_with (go_at_call 38; refine (isPunctuation_any s[a + 1] _).mono ?_; rintro e w' ⟨rfl, rfl⟩; rw [HP.out])
      go_ret
      exact ⟨ret_int (by rw [HE.out]; rfl), rfl⟩
    · have HE := Lib.hid (show escEnd s a = a + 2 by unfold escEnd; rw [dif_pos h1, hp]; rfl)
      have HP := Lib.hid hp
      clear hp
      go_enter Tryd.func30, Tryd.ntmps30
      go_wp2_with (go_at_call 38; refine (isPunctuation_any s[a + 1] _).mono ?_; rintro e w' ⟨rfl, rfl⟩; rw [HP.out])
      go_ret
      exact ⟨ret_int (by rw [HE.out]; omega), rfl⟩
  · have q0 : ((a : Int) + 1 == (s.size : Int)) = true := by simp; omega
    have HE := Lib.hid (show escEnd s a = 0 by unfold escEnd; rw [dif_neg h1])
    go_enter Tryd.func30, Tryd.ntmps30
    go_wp2
    go_ret
    exact ⟨ret_int (by rw [HE.out]; rfl), rfl⟩

theorem idx_lt (l : List UInt8) (c : UInt8) : Lib.indexByte l c < l.length ∨ Lib.indexByte l c < 0 := by
  by_cases h : Lib.indexByte l c < 0
  · exact .inr h
  · obtain ⟨o, ho⟩ := Int.eq_ofNat_of_zero_le (by omega : 0 ≤ Lib.indexByte l c)
    have h1 := (Lib.indexByte_some ho).1
    have h2 := (List.getElem?_eq_some_iff.1 h1).1
    left; omega

def codEnd (s : ByteArray) (a : Nat) : Nat :=
  if Lib.indexByte (s.extract (a + 1) s.size).data.toList 96 < 1 then 0 else a + (Lib.indexByte (s.extract (a + 1) s.size).data.toList 96).toNat + 2

set_option maxHeartbeats 1000000 in
theorem codeEnd_any (s : ByteArray) (a : Nat) (w : World) (hs : s.size ≤ 140737488355328) (ha : a < s.size) :
    Calls Tryd.prog 31 #[.string s, .int .i64 a] w fun e w' => e = .returned (.int .i64 (codEnd s a)) ∧ w' = w := by
  have h1 : a + 1 ≤ s.size := by omega
  have h2 : (a : Int) + 1 ≤ s.size := by omega
  obtain ⟨i, hi⟩ : ∃ i, i = Lib.indexByte (s.extract (a + 1) s.size).data.toList 96 := ⟨_, rfl⟩
  have b1 : -1 ≤ i := by rw [hi]; exact Lib.indexByte_ge _ _
  have b2 : i ≤ 140737488355328 := by
    have h := idx_lt (s.extract (a + 1) s.size).data.toList 96
    rw [← hi] at h
    simp at h
    omega
  have HI := Lib.hid hi
  have HE := Lib.hid (show codEnd s a = if i < 1 then 0 else a + i.toNat + 2 by rw [hi]; rfl)
  clear hi
  by_cases h3 : i < 1
  · have HE2 := Lib.hid (show codEnd s a = 0 by rw [HE.out, if_pos h3])
    go_enter Tryd.func31, Tryd.ntmps31
    go_wp2_with (go_at_call 39; refine (Tryd.strings_IndexByte (s.extract (a + 1) s.size) 96 _).mono ?_; rintro e w' ⟨rfl, rfl⟩; rw [show Lib.indexByte (s.extract (a + 1) s.size).data.toList (96 : Int).toNat.toUInt8 = i from HI.out.symm])
    go_ret
    exact ⟨ret_int (by rw [HE2.out]; rfl), rfl⟩
  · have HE2 := Lib.hid (show codEnd s a = a + i.toNat + 2 by rw [HE.out, if_neg h3])
    go_enter Tryd.func31, Tryd.ntmps31
    go_wp2_with (go_at_call 39; refine (Tryd.strings_IndexByte (s.extract (a + 1) s.size) 96 _).mono ?_; rintro e w' ⟨rfl, rfl⟩; rw [show Lib.indexByte (s.extract (a + 1) s.size).data.toList (96 : Int).toNat.toUInt8 = i from HI.out.symm])
    go_ret
    exact ⟨ret_int (by rw [HE2.out]; omega), rfl⟩

theorem str_empty {t : ByteArray} (h : t.size = 0) : t.toList = [] := by
  rw [ByteArray.toList_eq]; exact List.eq_nil_of_length_eq_zero (by simpa using h)
theorem str_isEmpty {t : ByteArray} (h : t.size = 0) : t.toList.isEmpty = true := by rw [str_empty h]; rfl
theorem str_full {t : ByteArray} (h : 0 < t.size) : ¬ t.toList = [] := by
  rw [ByteArray.toList_eq]; intro e; have h1 := congrArg List.length e; have h2 := Lib.size_eq t; simp only [List.length_nil] at h1; omega
theorem str_nonEmpty {t : ByteArray} (h : 0 < t.size) : t.toList.isEmpty = false := by
  cases he : t.toList.isEmpty with
  | false => rfl
  | true => exact absurd (List.isEmpty_iff.1 he) (str_full h)

def isTgt (t : ByteArray) : Bool := decide (1 ≤ t.size ∧ t.size ≤ 100 ∧ bAt t 0 ≠ 32 ∧ bAt t (t.size - 1) ≠ 32 ∧ runTo cTarget t 0 = t.size)

set_option maxHeartbeats 1000000 in
theorem isTarget_any (t : ByteArray) (w : World) (hs : t.size ≤ 140737488355328) :
    Calls Tryd.prog 10 #[.string t] w fun e w' => e = .returned (.bool (isTgt t)) ∧ w' = w := by
  by_cases h0 : t.size = 0
  · have e1 := str_empty h0
    have e2 := str_isEmpty h0
    have HE := Lib.hid (show isTgt t = false from decide_eq_false (by omega))
    clear h0
    go_enter Tryd.func10, Tryd.ntmps10
    go_wp2
    go_ret
    exact ⟨ret_bool HE.out.symm, rfl⟩
  · have e1 := str_full (by omega : 0 < t.size)
    have e2 := str_nonEmpty (by omega : 0 < t.size)
    by_cases h1 : 100 < t.size
    · have HE := Lib.hid (show isTgt t = false from decide_eq_false (by omega))
      have q1 : (100 : Int) < t.size := by omega
      go_enter Tryd.func10, Tryd.ntmps10
      go_wp2
      go_ret
      exact ⟨ret_bool HE.out.symm, rfl⟩
    · have q1 : (t.size : Int) ≤ 100 := by omega
      have q2 : 0 < t.size := by omega
      have q3 : (1 : Int) ≤ t.size := by omega
      have q4 : (t.size : Int) - 1 < t.size := by omega
      have q5 : t.size - 1 < t.size := by omega
      have z0 := bAt_lt q2
      have z1 := bAt_lt q5
      have d1 : decide ((100 : Int) < t.size) = false := by simp; omega
      by_cases h2 : (t[0].toNat : Int) = 32
      · have HE := Lib.hid (show isTgt t = false from decide_eq_false (by omega))
        have b2 : ((t[0].toNat : Int) == 32) = true := by simpa using h2
        clear z0 z1 h0 h1
        go_enter Tryd.func10, Tryd.ntmps10
        go_wp2
        go_ret
        exact ⟨ret_bool HE.out.symm, rfl⟩
      · have b2 : ((t[0].toNat : Int) == 32) = false := by simpa using h2
        by_cases h3 : (t[t.size - 1].toNat : Int) = 32
        · have HE := Lib.hid (show isTgt t = false from decide_eq_false (by omega))
          have b3 : ((t[t.size - 1].toNat : Int) == 32) = true := by simpa using h3
          clear z0 z1 h0 h1
          go_enter Tryd.func10, Tryd.ntmps10
          go_wp2
          go_ret
          exact ⟨ret_bool HE.out.symm, rfl⟩
        · have HE := Lib.hid (show isTgt t = decide (runTo cTarget t 0 = t.size) by unfold isTgt; rw [Bool.eq_iff_iff]; simp only [decide_eq_true_eq]; omega)
          have b3 : ((t[t.size - 1].toNat : Int) == 32) = false := by simpa using h3
          clear z0 z1 h0 h1
          go_enter Tryd.func10, Tryd.ntmps10
          go_wp2_with (go_at_call 22; refine (runEnd_any isTargetByte_class t 0 _ (by omega) (by omega) (by omega)).mono ?_; rintro e w' ⟨rfl, rfl⟩)
          go_ret
          refine ⟨ret_bool ?_, rfl⟩
          first
            | (rw [HE.out]; done)
            | (rw [HE.out, Bool.eq_iff_iff]; simp <;> omega)

def isTagRun (t : ByteArray) : Bool := decide (1 ≤ t.size ∧ t.size ≤ 100 ∧ bAt t 0 ≠ 47 ∧ bAt t (t.size - 1) ≠ 47 ∧ runTo (fun c => !cLetter c) t 0 < t.size)

set_option maxHeartbeats 1000000 in
theorem isTag_any (t : ByteArray) (w : World) (hs : t.size ≤ 140737488355328) :
    Calls Tryd.prog 44 #[.string t] w fun e w' => e = .returned (.bool (isTagRun t)) ∧ w' = w := by
  by_cases h0 : t.size = 0
  · have e1 := str_empty h0
    have e2 := str_isEmpty h0
    have HE := Lib.hid (show isTagRun t = false from decide_eq_false (by omega))
    clear h0
    go_enter Tryd.func44, Tryd.ntmps44
    go_wp2
    go_ret
    exact ⟨ret_bool HE.out.symm, rfl⟩
  · have e1 := str_full (by omega : 0 < t.size)
    have e2 := str_nonEmpty (by omega : 0 < t.size)
    by_cases h1 : 100 < t.size
    · have HE := Lib.hid (show isTagRun t = false from decide_eq_false (by omega))
      have q1 : (100 : Int) < t.size := by omega
      go_enter Tryd.func44, Tryd.ntmps44
      go_wp2
      go_ret
      exact ⟨ret_bool HE.out.symm, rfl⟩
    · have q1 : (t.size : Int) ≤ 100 := by omega
      have q2 : 0 < t.size := by omega
      have q3 : (1 : Int) ≤ t.size := by omega
      have q4 : (t.size : Int) - 1 < t.size := by omega
      have q5 : t.size - 1 < t.size := by omega
      have z0 := bAt_lt q2
      have z1 := bAt_lt q5
      have d1 : decide ((100 : Int) < t.size) = false := by simp; omega
      by_cases h2 : (t[0].toNat : Int) = 47
      · have HE := Lib.hid (show isTagRun t = false from decide_eq_false (by omega))
        have b2 : ((t[0].toNat : Int) == 47) = true := by simpa using h2
        clear z0 z1 h0 h1
        go_enter Tryd.func44, Tryd.ntmps44
        go_wp2
        go_ret
        exact ⟨ret_bool HE.out.symm, rfl⟩
      · have b2 : ((t[0].toNat : Int) == 47) = false := by simpa using h2
        by_cases h3 : (t[t.size - 1].toNat : Int) = 47
        · have HE := Lib.hid (show isTagRun t = false from decide_eq_false (by omega))
          have b3 : ((t[t.size - 1].toNat : Int) == 47) = true := by simpa using h3
          clear z0 z1 h0 h1
          go_enter Tryd.func44, Tryd.ntmps44
          go_wp2
          go_ret
          exact ⟨ret_bool HE.out.symm, rfl⟩
        · have HE := Lib.hid (show isTagRun t = decide (runTo (fun c => !cLetter c) t 0 < t.size) by unfold isTagRun; rw [Bool.eq_iff_iff]; simp only [decide_eq_true_eq]; omega)
          have b3 : ((t[t.size - 1].toNat : Int) == 47) = false := by simpa using h3
          clear z0 z1 h0 h1
          go_enter Tryd.func44, Tryd.ntmps44
          go_wp2_with (go_at_call 22; refine (runEnd_any isNoLetter_class t 0 _ (by omega) (by omega) (by omega)).mono ?_; rintro e w' ⟨rfl, rfl⟩)
          go_ret
          refine ⟨ret_bool ?_, rfl⟩
          first
            | (rw [HE.out]; done)
            | (rw [HE.out, Bool.eq_iff_iff]; simp <;> omega)

end Go.Proofs.YtdhaanlgijikeaaDoor
