/- Package text, part 3: where links, references and tags end. -/
import Derived.Test.YtdhaanlgijikeaaDoorTxB
import Derived.WalkKit
import Derived.Lib.Hide
import Derived.Outline
namespace Go.Proofs.YtdhaanlgijikeaaDoor
open Go.RowKit

theorem runTo_le {cls : UInt8 → Bool} {s : ByteArray} {a : Nat} (h : a ≤ s.size) : a ≤ runTo cls s a ∧ runTo cls s a ≤ s.size := by
  unfold runTo
  have h1 : ((s.data.toList.drop a).takeWhile cls).length ≤ (s.data.toList.drop a).length := (List.takeWhile_sublist _).length_le
  have h2 := Lib.size_eq s
  rw [List.length_drop] at h1
  omega
theorem pre_le {s m : ByteArray} {a : Nat} (h : pre s a m = true) (ha : a ≤ s.size) : a + m.size ≤ s.size := by
  unfold pre Lib.hasPrefix at h
  rw [List.isPrefixOf_iff_prefix] at h
  have h1 := h.length_le
  rw [← Lib.size_eq, ← Lib.size_eq] at h1
  rw [ByteArray.size_extract] at h1
  omega

def s2 (x y : UInt8) : ByteArray := ⟨#[x, y]⟩

def lnkEnd (s : ByteArray) (a : Nat) : Nat :=
  if pre s a ⟨#[91, 91]⟩ = true then
    if isTgt (s.extract (a + 2) (runTo cTarget s (a + 2))) = true then
      if pre s (runTo cTarget s (a + 2)) ⟨#[124]⟩ = true then
        if runTo cShown s (runTo cTarget s (a + 2) + 1) = runTo cTarget s (a + 2) + 1 then 0
        else eAfter s (runTo cShown s (runTo cTarget s (a + 2) + 1)) ⟨#[93, 93]⟩
      else eAfter s (runTo cTarget s (a + 2)) ⟨#[93, 93]⟩
    else 0
  else 0

theorem eAfter_yes {s m : ByteArray} {a : Nat} (h : pre s a m = true) : eAfter s a m = a + m.size := by unfold eAfter; rw [if_pos h]
theorem eAfter_no {s m : ByteArray} {a : Nat} (h : pre s a m = false) : eAfter s a m = 0 := by unfold eAfter; rw [if_neg (by simp [h])]

set_option maxRecDepth 100000 in
set_option maxHeartbeats 2000000 in
theorem linkEnd_any (s : ByteArray) (a : Nat) (w : World) (hs : s.size ≤ 140737488355328) (ha : a < s.size) :
    Calls Tryd.prog 32 #[.string s, .int .i64 a] w fun e w' => e = .returned (.int .i64 (lnkEnd s a)) ∧ w' = w := by
  rcases h1 : pre s a ⟨#[91, 91]⟩ with _ | _
  · have HE := Lib.hid (show lnkEnd s a = 0 by unfold lnkEnd; rw [if_neg (by simp [h1])])
    have H1 := Lib.hid (eAfter_no h1)
    clear h1
    go_enter Tryd.func32, Tryd.ntmps32
    go_wp2_with fail
    refine (endAfter_any s ⟨#[91, 91]⟩ a _ hs (by decide) (by omega) (by omega)).mono ?_
    rintro e w' ⟨rfl, rfl⟩
    rw [Int.toNat_natCast, H1.out]
    go_wp2
    go_ret
    exact ⟨ret_int (by rw [HE.out]; rfl), rfl⟩
  · have b1 : a + 2 ≤ s.size := pre_le h1 (by omega)
    have H1 := Lib.hid (show eAfter s a ⟨#[91, 91]⟩ = a + 2 from eAfter_yes h1)
    obtain ⟨n, hn⟩ : ∃ n, n = runTo cTarget s (a + 2) := ⟨_, rfl⟩
    have b2 : a + 2 ≤ n ∧ n ≤ s.size := by rw [hn]; exact runTo_le b1
    obtain ⟨b2, b3⟩ := b2
    have HN := Lib.hid hn
    have q0 : (0 : Int) < (a : Int) + 2 := by omega
    have q1 : ((a : Int) + 2 == 0) = false := by simp; omega
    have q2 : (a : Int) + 2 ≤ n := by omega
    have q3 : (n : Int) ≤ s.size := by omega
    have q6 : (0 : Int) ≤ (a : Int) + 2 := by omega
    have bx : (s.extract (a + 2) n).size ≤ 140737488355328 := by rw [ByteArray.size_extract]; omega
    rcases h2 : isTgt (s.extract (a + 2) n) with _ | _
    · have HE := Lib.hid (show lnkEnd s a = 0 by unfold lnkEnd; rw [if_pos h1, ← hn, if_neg (by simp [h2])])
      have H2 := Lib.hid h2
      clear h1 h2 hn
      go_enter Tryd.func32, Tryd.ntmps32
      go_wp2_with fail
      refine (endAfter_any s ⟨#[91, 91]⟩ a _ hs (by decide) (by omega) (by omega)).mono ?_
      rintro e w' ⟨rfl, rfl⟩
      rw [Int.toNat_natCast, H1.out]
      go_wp2_with fail
      refine (runEnd_any isTargetByte_class s ((a : Int) + 2) _ (by omega) (by omega) (by omega)).mono ?_
      rintro e w' ⟨rfl, rfl⟩
      rw [show ((a : Int) + 2).toNat = a + 2 from by omega, ← HN.out]
      go_wp2_with fail
      refine (isTarget_any _ _ bx).mono ?_
      rintro e w' ⟨rfl, rfl⟩
      rw [H2.out]
      go_wp2_with fail
      go_ret
      exact ⟨ret_int (by rw [HE.out]; rfl), rfl⟩
    · have H2 := Lib.hid h2
      rcases h3 : pre s n ⟨#[124]⟩ with _ | _
      · have HE := Lib.hid (show lnkEnd s a = eAfter s n ⟨#[93, 93]⟩ by unfold lnkEnd; rw [if_pos h1, ← hn, if_pos h2, if_neg (by simp [h3])])
        have H3 := Lib.hid (eAfter_no h3)
        clear h1 h2 h3 hn
        go_enter Tryd.func32, Tryd.ntmps32
        go_wp2_with fail
        refine (endAfter_any s ⟨#[91, 91]⟩ a _ hs (by decide) (by omega) (by omega)).mono ?_
        rintro e w' ⟨rfl, rfl⟩
        rw [Int.toNat_natCast, H1.out]
        go_wp2_with fail
        refine (runEnd_any isTargetByte_class s ((a : Int) + 2) _ (by omega) (by omega) (by omega)).mono ?_
        rintro e w' ⟨rfl, rfl⟩
        rw [show ((a : Int) + 2).toNat = a + 2 from by omega, ← HN.out]
        go_wp2_with fail
        refine (isTarget_any _ _ bx).mono ?_
        rintro e w' ⟨rfl, rfl⟩
        rw [H2.out]
        go_wp2_with fail
        refine (endAfter_any s ⟨#[124]⟩ n _ hs (by decide) (by omega) (by omega)).mono ?_
        rintro e w' ⟨rfl, rfl⟩
        rw [Int.toNat_natCast, H3.out]
        go_wp2_with fail
        refine (endAfter_any s ⟨#[93, 93]⟩ n _ hs (by decide) (by omega) (by omega)).mono ?_
        rintro e w' ⟨rfl, rfl⟩
        rw [Int.toNat_natCast]
        go_wp2_with fail
        go_ret
        exact ⟨ret_int (by rw [HE.out]), rfl⟩
      · have b4 : n + 1 ≤ s.size := pre_le h3 b3
        have H3 := Lib.hid (show eAfter s n ⟨#[124]⟩ = n + 1 from eAfter_yes h3)
        obtain ⟨m, hm⟩ : ∃ m, m = runTo cShown s (n + 1) := ⟨_, rfl⟩
        have b5 : n + 1 ≤ m ∧ m ≤ s.size := by rw [hm]; exact runTo_le b4
        obtain ⟨b5, b6⟩ := b5
        have HM := Lib.hid hm
        have q4 : (0 : Int) < (n : Int) + 1 := by omega
        by_cases h4 : m = n + 1
        · have HE := Lib.hid (show lnkEnd s a = 0 by unfold lnkEnd; rw [if_pos h1, ← hn, if_pos h2, if_pos h3, ← hm, if_pos h4])
          have q5 : ((m : Int) == (n : Int) + 1) = true := by simp; omega
          clear h1 h2 h3 hn hm h4
          go_enter Tryd.func32, Tryd.ntmps32
          go_wp2_with fail
          refine (endAfter_any s ⟨#[91, 91]⟩ a _ hs (by decide) (by omega) (by omega)).mono ?_
          rintro e w' ⟨rfl, rfl⟩
          rw [Int.toNat_natCast, H1.out]
          go_wp2_with fail
          refine (runEnd_any isTargetByte_class s ((a : Int) + 2) _ (by omega) (by omega) (by omega)).mono ?_
          rintro e w' ⟨rfl, rfl⟩
          rw [show ((a : Int) + 2).toNat = a + 2 from by omega, ← HN.out]
          go_wp2_with fail
          refine (isTarget_any _ _ bx).mono ?_
          rintro e w' ⟨rfl, rfl⟩
          rw [H2.out]
          go_wp2_with fail
          refine (endAfter_any s ⟨#[124]⟩ n _ hs (by decide) (by omega) (by omega)).mono ?_
          rintro e w' ⟨rfl, rfl⟩
          rw [Int.toNat_natCast, H3.out]
          go_wp2_with fail
          refine (runEnd_any isShownByte_class s ((n : Int) + 1) _ (by omega) (by omega) (by omega)).mono ?_
          rintro e w' ⟨rfl, rfl⟩
          rw [show ((n : Int) + 1).toNat = n + 1 from by omega, ← HM.out]
          go_wp2_with fail
          go_ret
          exact ⟨ret_int (by rw [HE.out]; rfl), rfl⟩
        · have HE := Lib.hid (show lnkEnd s a = eAfter s m ⟨#[93, 93]⟩ by unfold lnkEnd; rw [if_pos h1, ← hn, if_pos h2, if_pos h3, ← hm, if_neg h4])
          have q5 : ((m : Int) == (n : Int) + 1) = false := by simp; omega
          clear h1 h2 h3 hn hm h4
          go_enter Tryd.func32, Tryd.ntmps32
          go_wp2_with fail
          refine (endAfter_any s ⟨#[91, 91]⟩ a _ hs (by decide) (by omega) (by omega)).mono ?_
          rintro e w' ⟨rfl, rfl⟩
          rw [Int.toNat_natCast, H1.out]
          go_wp2_with fail
          refine (runEnd_any isTargetByte_class s ((a : Int) + 2) _ (by omega) (by omega) (by omega)).mono ?_
          rintro e w' ⟨rfl, rfl⟩
          rw [show ((a : Int) + 2).toNat = a + 2 from by omega, ← HN.out]
          go_wp2_with fail
          refine (isTarget_any _ _ bx).mono ?_
          rintro e w' ⟨rfl, rfl⟩
          rw [H2.out]
          go_wp2_with fail
          refine (endAfter_any s ⟨#[124]⟩ n _ hs (by decide) (by omega) (by omega)).mono ?_
          rintro e w' ⟨rfl, rfl⟩
          rw [Int.toNat_natCast, H3.out]
          go_wp2_with fail
          refine (runEnd_any isShownByte_class s ((n : Int) + 1) _ (by omega) (by omega) (by omega)).mono ?_
          rintro e w' ⟨rfl, rfl⟩
          rw [show ((n : Int) + 1).toNat = n + 1 from by omega, ← HM.out]
          go_wp2_with fail
          refine (endAfter_any s ⟨#[93, 93]⟩ m _ hs (by decide) (by omega) (by omega)).mono ?_
          rintro e w' ⟨rfl, rfl⟩
          rw [Int.toNat_natCast]
          go_wp2_with fail
          go_ret
          exact ⟨ret_int (by rw [HE.out]), rfl⟩
end Go.Proofs.YtdhaanlgijikeaaDoor
