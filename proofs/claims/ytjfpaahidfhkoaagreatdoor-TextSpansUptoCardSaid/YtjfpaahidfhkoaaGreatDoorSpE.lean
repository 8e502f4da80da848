/- Package text: Check on both sides, and the reference's EscapedOf. -/
import Derived.Test.YtjfpaahidfhkoaaGreatDoorSpD
import Derived.Test.YtjfpaahidfhkoaaGreatDoorTyF
import Derived.WalkKit
import Derived.Lib.Hide
import Derived.Outline
import Derived.Deep.QuietTactic
import Derived.BigQuiet
import Derived.Laws.DeepStrings4
namespace Go.Proofs.YtjfpaahidfhkoaaGreatDoor
open Go.RowKit

/-- A byte that Check refuses. -/
def ctl (s : ByteArray) : Bool := s.data.toList.any fun c => !cNoControl c
theorem takeWhile_any (p : UInt8 → Bool) : ∀ l : List UInt8, decide ((l.takeWhile p).length < l.length) = l.any fun c => !p c
  | [] => rfl
  | c :: l => by
    have h := takeWhile_any p l
    rw [List.takeWhile_cons, List.any_cons]
    cases hc : p c with
    | true => simpa using h
    | false => simp
theorem ctl_run (s : ByteArray) : decide (runTo cNoControl s 0 < s.size) = ctl s := by
  have h := takeWhile_any cNoControl s.data.toList
  unfold ctl
  rw [← h]
  unfold runTo
  rw [List.drop_zero, Nat.zero_add, Array.length_toList]
  rfl
theorem ctl_true {s : ByteArray} {k : Nat} (hk : k < s.size) (h : cNoControl s[k] = false) : ctl s = true := by
  unfold ctl
  rw [List.any_eq_true]
  exact ⟨s[k], mem_at hk, by simp [h]⟩
theorem ctl_false {s : ByteArray} (h : ∀ j (hj : j < s.size), cNoControl s[j] = true) : ctl s = false := by
  unfold ctl
  rw [List.any_eq_false]
  intro c hc
  obtain ⟨j, hj, rfl⟩ := at_mem hc
  simp [h j hj]

set_option maxHeartbeats 1000000 in
theorem hasControl_any (s : ByteArray) (w : World) (hs : s.size ≤ 4000000000) :
    Calls Tryz.prog 36 #[.string s] w fun e w' => e = .returned (.bool (ctl s)) ∧ w' = w := by
  obtain ⟨r, hr⟩ : ∃ r, r = runTo cNoControl s 0 := ⟨_, rfl⟩
  have h := ctl_run s
  rw [← hr] at h
  have HR := Lib.hid (runEnd_any isNoControl_class s 0 w (by omega) (by omega) (by omega))
  have HE : Hid (runTo cNoControl s (0 : Int).toNat = r) := Lib.hid hr.symm
  have HC := Lib.hid h
  clear h hr
  go_enter Tryz.func36, Tryz.ntmps36
  go_wp2_with fail
  refine HR.out.mono ?_
  rintro e1 w1 ⟨rfl, rfl⟩
  rw [HE.out]
  go_wp2
  go_ret
  exact ⟨ret_bool HC.out, rfl⟩

set_option maxHeartbeats 1000000 in
theorem below_any (s : ByteArray) (w : World) (hs : s.size ≤ 4000000000) :
    Calls Tryz.prog 37 #[.string s] w fun e w' => e = .returned (.bool (ctl s)) ∧ w' = w := by
  go_enter Tryz.func37, Tryz.ntmps37
  go_wp2
  go_loop [3] (fun i => ∃ k : Nat, k ≤ s.size ∧ i = .int .i64 k ∧ Hid (∀ j (hj : j < s.size), j < k → cNoControl s[j] = true)) (fun i => s.size - (intOf i).toNat)
  case atStart => exact ⟨0, Nat.zero_le _, rfl, fun j _ hj => by omega⟩
  case round =>
    obtain ⟨k, hk, rfl, hall⟩ := hrel
    by_cases hlt : k < s.size
    · have p1 : (k : Int) < s.size := by omega
      by_cases h1 : (s[k].toNat : Int) < 32
      · have hb : ctl s = true := ctl_true hlt (decide_eq_false (by omega))
        have HB := Lib.hid hb
        clear hb
        go_wp2
        go_ret
        exact ⟨ret_bool HB.out.symm, rfl⟩
      · by_cases h2 : (s[k].toNat : Int) = 127
        · have hb : ctl s = true := ctl_true hlt (decide_eq_false (by omega))
          have HB := Lib.hid hb
          have q2 : ((s[k].toNat : Int) == 127) = true := by simpa using h2
          clear hb h2
          go_wp2
          go_ret
          exact ⟨ret_bool HB.out.symm, rfl⟩
        · have hb : cNoControl s[k] = true := decide_eq_true ⟨by omega, h2⟩
          have HB := Lib.hid hb
          have q2 : ((s[k].toNat : Int) == 127) = false := by simpa using h2
          clear hb
          go_wp2
          go_round
          case rel => exact ⟨k + 1, by omega, by go_num, fun j hj hjk => by
            rcases Nat.lt_succ_iff_lt_or_eq.1 hjk with h | rfl
            · exact hall.out j hj h
            · exact HB.out⟩
          case measure => simp [intOf]; omega
    · have hb : ctl s = false := ctl_false fun j hj => hall.out j hj (by omega)
      have HB := Lib.hid hb
      clear hb
      go_wp2
      go_ret
      exact ⟨ret_bool HB.out.symm, rfl⟩

def checkV (s : ByteArray) : Int := if 2000 < s.size then 4 else if ctl s = true then 9 else 0
set_option maxHeartbeats 1000000 in
theorem check_any (s : ByteArray) (w : World) (hs : s.size ≤ 4000000000) :
    Calls Tryz.prog 6 #[.string s] w fun e w' => e = .returned (.int .i64 (checkV s)) ∧ w' = w := by
  by_cases h1 : 2000 < s.size
  · have hv : checkV s = 4 := by unfold checkV; rw [if_pos h1]
    have p : (2000 : Int) < s.size := by omega
    rw [hv]; clear hv
    go_enter Tryz.func6, Tryz.ntmps6
    go_wp2
    go_ret
    exact ⟨rfl, rfl⟩
  · have p : ¬ (2000 : Int) < s.size := by omega
    have hh := hasControl_any s w hs
    cases hc : ctl s with
    | true =>
      have hv : checkV s = 9 := by unfold checkV; rw [if_neg h1, if_pos hc]
      rw [hv]
      rw [hc] at hh
      have HH := Lib.hid hh
      clear hh hv hc
      go_enter Tryz.func6, Tryz.ntmps6
      go_wp2_with fail
      refine HH.out.mono ?_
      rintro e1 w1 ⟨rfl, rfl⟩
      go_wp2
      go_ret
      exact ⟨rfl, rfl⟩
    | false =>
      have hv : checkV s = 0 := by unfold checkV; rw [if_neg h1, if_neg (by simp [hc])]
      rw [hv]
      rw [hc] at hh
      have HH := Lib.hid hh
      clear hh hv hc
      go_enter Tryz.func6, Tryz.ntmps6
      go_wp2_with fail
      refine HH.out.mono ?_
      rintro e1 w1 ⟨rfl, rfl⟩
      go_wp2
      go_ret
      exact ⟨rfl, rfl⟩
set_option maxHeartbeats 1000000 in
theorem textError_any (s : ByteArray) (w : World) (hs : s.size ≤ 4000000000) :
    Calls Tryz.prog 7 #[.string s] w fun e w' => e = .returned (.int .i64 (checkV s)) ∧ w' = w := by
  by_cases h1 : 2000 < s.size
  · have hv : checkV s = 4 := by unfold checkV; rw [if_pos h1]
    have p : (2000 : Int) < s.size := by omega
    rw [hv]; clear hv
    go_enter Tryz.func7, Tryz.ntmps7
    go_wp2
    go_ret
    exact ⟨rfl, rfl⟩
  · have p : ¬ (2000 : Int) < s.size := by omega
    have hh := below_any s w hs
    cases hc : ctl s with
    | true =>
      have hv : checkV s = 9 := by unfold checkV; rw [if_neg h1, if_pos hc]
      rw [hv]
      rw [hc] at hh
      have HH := Lib.hid hh
      clear hh hv hc
      go_enter Tryz.func7, Tryz.ntmps7
      go_wp2_with fail
      refine HH.out.mono ?_
      rintro e1 w1 ⟨rfl, rfl⟩
      go_wp2
      go_ret
      exact ⟨rfl, rfl⟩
    | false =>
      have hv : checkV s = 0 := by unfold checkV; rw [if_neg h1, if_neg (by simp [hc])]
      rw [hv]
      rw [hc] at hh
      have HH := Lib.hid hh
      clear hh hv hc
      go_enter Tryz.func7, Tryz.ntmps7
      go_wp2_with fail
      refine HH.out.mono ?_
      rintro e1 w1 ⟨rfl, rfl⟩
      go_wp2
      go_ret
      exact ⟨rfl, rfl⟩

/-! ### EscapedOf -/
def escS (s : ByteArray) (k : Nat) : ByteArray := ⟨(escL (s.data.toList.take k)).toArray⟩
theorem escS_size (s : ByteArray) (k : Nat) : (escS s k).size ≤ 2 * s.size := by
  have h := escTake_len s k
  have e : (escS s k).size = (escL (s.data.toList.take k)).length := by simp [escS, ByteArray.size]
  omega
theorem cut_one {s : ByteArray} {k : Nat} (h : k < s.size) : (s.extract k (k + 1)).data.toList = [s[k]] := by
  rw [Lib.extract_eq]
  simp only
  rw [show k + 1 - k = 1 by omega, List.take_one, List.head?_drop, List.getElem?_eq_getElem (by rw [Array.length_toList]; exact h)]
  rfl
theorem escS_yes {s : ByteArray} {k : Nat} (h : k < s.size) (hi : 0 ≤ Lib.indexByte [92, 96, 91, 40, 35, 42] s[k]) : escS s (k + 1) = escS s k ++ ⟨#[92]⟩ ++ s.extract k (k + 1) := by
  apply ByteArray.ext
  apply Array.ext'
  rw [ByteArray.data_append, ByteArray.data_append, Array.toList_append, Array.toList_append, cut_one h]
  unfold escS
  rw [take_next s k h, escL_snoc]
  unfold escB
  rw [if_pos hi]
  simp
theorem escS_no {s : ByteArray} {k : Nat} (h : k < s.size) (hi : ¬ 0 ≤ Lib.indexByte [92, 96, 91, 40, 35, 42] s[k]) : escS s (k + 1) = escS s k ++ s.extract k (k + 1) := by
  apply ByteArray.ext
  apply Array.ext'
  rw [ByteArray.data_append, Array.toList_append, cut_one h]
  unfold escS
  rw [take_next s k h, escL_snoc]
  unfold escB
  rw [if_neg hi]

set_option maxRecDepth 100000 in
set_option maxHeartbeats 4000000 in
theorem escapedOf_any (s : ByteArray) (w : World) (hs : s.size ≤ 1048576) :
    Calls Tryz.prog 26 #[.string s] w fun e w' => e = .returned (.string ⟨(escL s.data.toList).toArray⟩) ∧ w' = w := by
  have hR : (⟨(escL s.data.toList).toArray⟩ : ByteArray) = escS s s.size := by
    unfold escS
    rw [List.take_of_length_le (by rw [Array.length_toList]; exact Nat.le_refl _)]
  rw [hR]
  clear hR
  have hsz : (s.size : Int) ≤ 1048576 := by omega
  go_enter Tryz.func26, Tryz.ntmps26
  go_wp2_with fail
  go_loop [3, 4] (fun t i => ∃ k : Nat, k ≤ s.size ∧ i = .int .i64 k ∧ t = .string (escS s k)) (fun _ i => s.size - (intOf i).toNat)
  case atStart => exact ⟨0, Nat.zero_le _, rfl, by simp [escS, escL]⟩
  case round =>
    obtain ⟨k, hk, rfl, rfl⟩ := hrel
    have hz := escS_size s k
    by_cases hlt : k < s.size
    · have p1 : (k : Int) < s.size := by omega
      have p2 : (k : Int) + 1 ≤ s.size := by omega
      have p3 : (k : Int) ≤ (k : Int) + 1 := by omega
      have p4 : (0 : Int) ≤ (k : Int) + 1 := by omega
      have p5 : ((k : Int) + 1).toNat = k + 1 := by omega
      obtain ⟨c, hc⟩ : ∃ c, c = s[k] := ⟨_, rfl⟩
      have HC := Lib.hid hc
      obtain ⟨d, hd⟩ : ∃ d, d = Lib.indexByte [92, 96, 91, 40, 35, 42] c := ⟨_, rfl⟩
      have hix : ∀ W, Calls Tryz.prog 52 #[.string ⟨#[92, 96, 91, 40, 35, 42]⟩, .int .u8 (c.toNat : Int)] W fun e w' => e = .returned (.int .i64 d) ∧ w' = W := fun W => by
        have := Tryz.strings_IndexByte ⟨#[92, 96, 91, 40, 35, 42]⟩ (c.toNat : Int) W
        rw [hd]
        simpa using this
      have HIX := Lib.hid hix
      have HY : Hid (0 ≤ d → escS s (k + 1) = escS s k ++ ⟨#[92]⟩ ++ s.extract k (k + 1)) := Lib.hid (fun h => escS_yes hlt (by rw [← hc, ← hd]; exact h))
      have HN : Hid (¬ 0 ≤ d → escS s (k + 1) = escS s k ++ s.extract k (k + 1)) := Lib.hid (fun h => escS_no hlt (by rw [← hc, ← hd]; exact h))
      obtain ⟨T, hT⟩ : ∃ T, T = escS s k := ⟨_, rfl⟩
      rw [← hT] at hz HY HN ⊢
      have hcut : (s.extract k (k + 1)).size = 1 := by rw [ByteArray.size_extract]; omega
      have z1 : T.size + 1 ≤ 4000000 := by omega
      have z2 : T.size + 1 + (s.extract k (k + 1)).size ≤ 4000000 := by omega
      have z3 : T.size + (s.extract k (k + 1)).size ≤ 4000000 := by omega
      clear hc hd hix hT hcut
      go_wp2_with fail
      rw [← HC.out]
      refine (HIX.out _).mono ?_
      rintro e1 w1 ⟨rfl, rfl⟩
      by_cases hd0 : 0 ≤ d
      · go_wp2_with fail
        go_round
        case rel => exact ⟨k + 1, by omega, by go_num, by rw [HY.out (by omega)]⟩
        case measure => simp [intOf]; omega
      · go_wp2_with fail
        go_round
        case rel => exact ⟨k + 1, by omega, by go_num, by rw [HN.out (by omega)]⟩
        case measure => simp [intOf]; omega
    · have p1 : ¬ (k : Int) < s.size := by omega
      obtain rfl : k = s.size := by omega
      go_wp2_with fail
      go_ret
      exact ⟨rfl, rfl⟩
end Go.Proofs.YtjfpaahidfhkoaaGreatDoor
