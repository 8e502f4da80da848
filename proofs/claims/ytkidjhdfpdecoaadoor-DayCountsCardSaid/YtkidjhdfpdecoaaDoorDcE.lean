/- DayCounts: a date as a string, the program's and the reference's. -/
import Derived.Test.YtkidjhdfpdecoaaDoorDcD
import Derived.WalkKit
import Derived.Lib.Hide
import Derived.Below
import Derived.Laws.IdiomStrings
import Derived.Deep.DeepCutAuto
import Derived.Deep.CutBlock
namespace Go.Proofs.YtkidjhdfpdecoaaDoor
open Go.RowKit

theorem low_length (n k : Nat) : (low n k).length = k := by induction k with | zero => rfl | succ k ih => simp [low, ih]
theorem pad_size (n k : Nat) : (pad n k).size = k := by
  show (low n k).toArray.size = k
  simp [low_length]
theorem padded_year (y : Int) (w : World) (h1 : 2000 ≤ y) (h2 : y < 2300) (hp : Pow w) :
    Calls Tryd.prog 64 #[.int .i64 y, .int .i64 4] w fun e w' => e = .returned (.string (pad y.toNat 4)) ∧ Below w.heap.size w w' := by
  obtain ⟨i, rfl⟩ : ∃ i : Nat, y = ((2000 + i : Nat) : Int) := ⟨(y - 2000).toNat, by omega⟩
  exact padded_four i w (by omega) hp
theorem padded_num (m : Int) (w : World) (h1 : 0 ≤ m) (h2 : m < 100) :
    Calls Tryd.prog 64 #[.int .i64 m, .int .i64 2] w fun e w' => e = .returned (.string (pad m.toNat 2)) ∧ w = w' := by
  obtain ⟨i, rfl⟩ : ∃ i : Nat, m = (i : Int) := ⟨m.toNat, by omega⟩
  exact padded_two i w (by omega)

/-- A date as a string. -/
def dstr (y m n : Int) : ByteArray := pad y.toNat 4 ++ ⟨#[45]⟩ ++ pad m.toNat 2 ++ ⟨#[45]⟩ ++ pad n.toNat 2
/-- It hands a day's date back as a string. -/
def DateStr (d : Int) (w : World) (e : Ending) (w' : World) : Prop :=
  (∃ y m n, Cal.DateIs d y m n ∧ e = .returned (.string (dstr y m n))) ∧ Below w.heap.size w w'

set_option maxHeartbeats 1000000 in
theorem dateText_any (d : Int) (w : World) (h0 : 0 ≤ d) (h1 : d ≤ 100000) (ht : Tab w) (hp : Pow w) :
    Calls Tryd.prog 38 #[.int .i64 d] w (DateStr d w) := by
  have HT := Lib.hid ht
  have HP := Lib.hid hp
  clear ht hp
  go_enter Tryd.func38, Tryd.ntmps38
  go_wp2_with fail
  refine (dateOf_any _ _ h0 (by omega) HT.out).mono ?_
  rintro e w' ⟨y, m, n, hd, rfl, rfl⟩
  obtain ⟨y1, y2, m1, m2, n1, n2⟩ := date_year_bd hd h1
  have HD := Lib.hid hd
  clear hd
  obtain ⟨Y, hY⟩ : ∃ Y, Y = pad y.toNat 4 := ⟨_, rfl⟩
  obtain ⟨M, hM⟩ : ∃ M, M = pad m.toNat 2 := ⟨_, rfl⟩
  obtain ⟨D, hD⟩ : ∃ D, D = pad n.toNat 2 := ⟨_, rfl⟩
  have sY : Y.size = 4 := by rw [hY, pad_size]
  have sM : M.size = 2 := by rw [hM, pad_size]
  have sD : D.size = 2 := by rw [hD, pad_size]
  have HY := Lib.hid hY
  have HM := Lib.hid hM
  have HDD := Lib.hid hD
  clear hY hM hD
  have hfin : Hid (Y ++ ⟨#[45]⟩ ++ M ++ ⟨#[45]⟩ ++ D = dstr y m n) := Lib.hid (by
    rw [HY.out, HM.out, HDD.out]; rfl)
  go_upto_region 2 with (fail)
  go_wp2_with fail
  refine (padded_year _ _ (by omega) (by omega) HP.out).mono ?_
  rintro e w1 ⟨rfl, hb⟩
  rw [← HY.out]
  have HB := Lib.hid hb
  clear hb
  go_wp2_with fail
  refine (padded_num _ _ (by omega) (by omega)).mono ?_
  rintro e w' ⟨rfl, rfl⟩
  rw [← HM.out]
  go_wp2_with fail
  refine (padded_num _ _ (by omega) (by omega)).mono ?_
  rintro e w' ⟨rfl, rfl⟩
  rw [← HDD.out]
  go_wp2
  go_ret
  refine ⟨⟨y, m, n, HD.out, ?_⟩, HB.out⟩
  exact congrArg (fun x => Ending.returned (Value.string x)) hfin.out

/-- DateText's answer. -/
def DateTextIs (d : Int) (w : World) (e : Ending) (w' : World) : Prop :=
  (∃ y m n, Cal.DateIs d y m n ∧ e = .returned (.tuple #[.string (dstr y m n), .int .i64 0])) ∧ Below w.heap.size w w'

set_option maxHeartbeats 400000 in
theorem DateText_yes (d : Int) (w : World) (h0 : 0 ≤ d) (h1 : d ≤ 100000) (ht : Tab w) (hp : Pow w) :
    Calls Tryd.prog 14 #[.int .i64 d] w (DateTextIs d w) := by
  have HT := Lib.hid ht
  have HP := Lib.hid hp
  clear ht hp
  go_enter Tryd.func14, Tryd.ntmps14
  go_wp2_with (go_at_call 33; refine (isDay_yes _ _ h0 h1).mono ?_; rintro e w' ⟨rfl, rfl⟩)
  refine (dateText_any _ _ h0 h1 HT.out HP.out).mono ?_
  rintro e w1 ⟨⟨y, m, n, hd, rfl⟩, hb⟩
  have HD := Lib.hid hd
  have HB := Lib.hid hb
  clear hd hb
  generalize hS : dstr y m n = S
  have HS := Lib.hid hS
  clear hS
  go_wp2
  go_ret2
  exact ⟨⟨y, m, n, HD.out, by rw [HS.out]; rfl⟩, HB.out⟩

set_option maxHeartbeats 400000 in
theorem DateText_no (d : Int) (w : World) (h : d < 0 ∨ 100000 < d) :
    Calls Tryd.prog 14 #[.int .i64 d] w fun e w' => e = .returned (.tuple #[.string ⟨#[]⟩, .int .i64 2]) ∧ w = w' := by
  have H := Lib.hid h
  clear h
  go_enter Tryd.func14, Tryd.ntmps14
  go_wp2_with (go_at_call 33; refine (isDay_no _ _ H.out).mono ?_; rintro e w' ⟨rfl, rfl⟩)
  go_ret2
  exact ⟨rfl, rfl⟩

set_option maxHeartbeats 400000 in
theorem DateOf_no (d : Int) (w : World) (h : d < 0 ∨ 100000 < d) :
    Calls Tryd.prog 12 #[.int .i64 d] w fun e w' => e = .returned (.tuple #[.int .i64 0, .int .i64 0, .int .i64 0, .int .i64 2]) ∧ w = w' := by
  have H := Lib.hid h
  clear h
  go_enter Tryd.func12, Tryd.ntmps12
  go_wp2_with (go_at_call 33; refine (isDay_no _ _ H.out).mono ?_; rintro e w' ⟨rfl, rfl⟩)
  exact bodyPost_ret (v := .tuple #[.int .i64 0, .int .i64 0, .int .i64 0, .int .i64 2]) (by simp [results, Tryd.results12, go_sem]) rfl ⟨rfl, rfl⟩

set_option maxHeartbeats 400000 in
theorem Week_no (d : Int) (w : World) (h : d < 0 ∨ 100000 < d) :
    Calls Tryd.prog 13 #[.int .i64 d] w fun e w' => e = .returned (.tuple #[.int .i64 0, .int .i64 0, .int .i64 2]) ∧ w = w' := by
  have H := Lib.hid h
  clear h
  go_enter Tryd.func13, Tryd.ntmps13
  go_wp2_with (go_at_call 33; refine (isDay_no _ _ H.out).mono ?_; rintro e w' ⟨rfl, rfl⟩)
  go_ret3
  exact ⟨rfl, rfl⟩

theorem small_pow (a b : Nat) (h : a < 10 ^ b) (hb : b ≤ 4) : a < 100000 :=
  Nat.lt_of_lt_of_le h (Nat.le_trans (Nat.pow_le_pow_right (by omega) hb) (by decide))
theorem pad_succ (a j : Nat) : (⟨#[dg (a / 10 ^ j)]⟩ ++ pad a j : ByteArray) = pad a (j + 1) := by
  apply ByteArray.ext; simp [pad, low]
theorem dg_toNat (v : Nat) : ((dg v).toNat : Int) = 48 + (v : Int) % 10 := by
  unfold dg
  rw [Nat.toUInt8, UInt8.toNat_ofNat_of_lt' (by show _ < 256; omega)]
  omega
theorem conv_digit (w : World) (v : Nat) : (Go.convert 95 9 (.slice (some ⟨w.heap.size, 0, none⟩) 1 1)).run Tryd.prog (w.alloc (.cells #[.int .u8 (48 + (v : Int) % 10)] 5)) =
    Result.ok (.string ⟨#[dg v]⟩) (w.alloc (.cells #[.int .u8 (48 + (v : Int) % 10)] 5)) := by
  have h := run_convert_bytes_back (P := Tryd.prog) (w.alloc (.cells #[.int .u8 (48 + (v : Int) % 10)] 5)) 95 9 5 ⟨w.heap.size, 0, none⟩ 1 [dg v] Tryd.underlying95 Tryd.underlying5 Tryd.underlying9 (fun j hj => by
    obtain rfl : j = 0 := by simpa using hj
    rw [show (⟨w.heap.size, 0, none⟩ : Addr).add 0 = ⟨w.heap.size, 0, none⟩ from rfl, World.cell?_alloc_at _ _ _ _ rfl]
    simp [dg_toNat])
  exact h
def strLen : Value → Nat | .string s => s.size | _ => 0

set_option maxHeartbeats 1000000 in
set_option maxRecDepth 100000 in
theorem refPadded_any (n k : Int) (w : World) (h0 : 0 ≤ n) (h1 : n < 10 ^ k.toNat) (k0 : 0 ≤ k) (k1 : k ≤ 4) :
    Calls Tryd.prog 40 #[.int .i64 n, .int .i64 k] w fun e w' => e = .returned (.string (pad n.toNat k.toNat)) ∧ Below w.heap.size w w' := by
  obtain ⟨a, rfl⟩ := Int.eq_ofNat_of_zero_le h0
  obtain ⟨b, rfl⟩ := Int.eq_ofNat_of_zero_le k0
  have hz : Hid (a / 10 ^ b = 0) := Lib.hid (Nat.div_eq_of_lt (by exact_mod_cast h1))
  have ha : a < 100000 := small_pow a b (by exact_mod_cast h1) (by omega)
  clear h0 h1 k0
  have HW : Hid (∀ j : Nat, a / 10 ^ (j + 1) = a / 10 ^ j / 10) := Lib.hid (fun j => by rw [Nat.pow_succ, Nat.div_div_eq_div_mul])
  go_enter Tryd.func40, Tryd.ntmps40
  go_wp2_with fail
  go_loopw [0, 5] (fun n s wr => ∃ j : Nat, j ≤ b ∧ n = .int .i64 ((a / 10 ^ j : Nat) : Int) ∧ s = .string (pad a j) ∧ Below w.heap.size w wr) (fun _ s _ => b - strLen s)
  case atStart => exact ⟨0, Nat.zero_le _, by simp, by rfl, Below.refl _ _⟩
  case round =>
    obtain ⟨j, hj, rfl, rfl, hb⟩ := hrel
    have HB := Lib.hid hb
    clear hb
    obtain ⟨v, hv⟩ : ∃ v, v = a / 10 ^ j := ⟨_, rfl⟩
    have hv2 : v < 100000 := by rw [hv]; exact Nat.lt_of_le_of_lt (Nat.div_le_self _ _) ha
    have sS : (pad a j).size = j := pad_size a j
    obtain ⟨S, hS⟩ : ∃ S, S = pad a j := ⟨_, rfl⟩
    rw [← hS] at sS ⊢
    rw [← hv]
    have HV := Lib.hid hv
    have HS := Lib.hid hS
    clear hv hS
    by_cases hlt : j < b
    · by_cases h0 : 0 < v
      all_goals
        have hcv := conv_digit wr v
        have hsz : (1 : Int) + (S.size : Int) ≤ 9223372036854775807 := by omega
        go_wp2_with fail
        go_roundw
        case rel =>
          refine ⟨j + 1, by omega, ?_, ?_, HB.out.alloc HB.out.size _⟩
          · rw [HW.out j, ← HV.out]; simp
          · rw [HS.out, HV.out]; exact congrArg Value.string (pad_succ a j)
        case measure =>
          show b - (⟨#[dg v]⟩ ++ S : ByteArray).size < b - S.size
          rw [ByteArray.size_append, show (⟨#[dg v]⟩ : ByteArray).size = 1 from rfl]; omega
    · obtain rfl : j = b := by omega
      have h0 : v = 0 := by rw [HV.out]; exact hz.out
      subst h0
      go_wp2_with fail
      go_ret
      exact ⟨by rw [HS.out]; rfl, HB.out⟩

theorem ten_four : (10 : Int) ^ (4 : Int).toNat = 10000 := by decide
theorem ten_two : (10 : Int) ^ (2 : Int).toNat = 100 := by decide
theorem refPadded_year (y : Int) (w : World) (h1 : 2000 ≤ y) (h2 : y < 2300) :
    Calls Tryd.prog 40 #[.int .i64 y, .int .i64 4] w fun e w' => e = .returned (.string (pad y.toNat 4)) ∧ Below w.heap.size w w' :=
  refPadded_any y 4 w (by omega) (by rw [ten_four]; omega) (by omega) (by omega)
theorem refPadded_num (m : Int) (w : World) (h1 : 0 ≤ m) (h2 : m < 100) :
    Calls Tryd.prog 40 #[.int .i64 m, .int .i64 2] w fun e w' => e = .returned (.string (pad m.toNat 2)) ∧ Below w.heap.size w w' :=
  refPadded_any m 2 w h1 (by rw [ten_two]; omega) (by omega) (by omega)

set_option maxHeartbeats 1000000 in
theorem dateString_any (d : Int) (w : World) (h0 : 0 ≤ d) (h1 : d ≤ 100000) :
    Calls Tryd.prog 17 #[.int .i64 d] w (DateStr d w) := by
  go_enter Tryd.func17, Tryd.ntmps17
  go_wp2_with fail
  refine (parts_any _ _ h0 (by omega)).mono ?_
  rintro e w' ⟨⟨y, m, n, hd, rfl⟩, rfl⟩
  obtain ⟨y1, y2, m1, m2, n1, n2⟩ := date_year_bd hd h1
  have HD := Lib.hid hd
  clear hd
  obtain ⟨Y, hY⟩ : ∃ Y, Y = pad y.toNat 4 := ⟨_, rfl⟩
  obtain ⟨M, hM⟩ : ∃ M, M = pad m.toNat 2 := ⟨_, rfl⟩
  obtain ⟨D, hD⟩ : ∃ D, D = pad n.toNat 2 := ⟨_, rfl⟩
  have sY : Y.size = 4 := by rw [hY, pad_size]
  have sM : M.size = 2 := by rw [hM, pad_size]
  have sD : D.size = 2 := by rw [hD, pad_size]
  have HY := Lib.hid hY
  have HM := Lib.hid hM
  have HDD := Lib.hid hD
  clear hY hM hD
  have hfin : Hid (Y ++ ⟨#[45]⟩ ++ M ++ ⟨#[45]⟩ ++ D = dstr y m n) := Lib.hid (by
    rw [HY.out, HM.out, HDD.out]; rfl)
  go_upto_region 2 with (fail)
  go_wp2_with fail
  refine (refPadded_year _ _ (by omega) (by omega)).mono ?_
  rintro e w1 ⟨rfl, hb⟩
  rw [← HY.out]
  have HB := Lib.hid hb
  clear hb
  go_wp2_with fail
  refine (refPadded_num _ _ (by omega) (by omega)).mono ?_
  rintro e w2 ⟨rfl, hb⟩
  rw [← HM.out]
  have HB2 : Hid (Below w.heap.size w w2) := Lib.hid (HB.out.trans (hb.mono HB.out.size))
  clear hb
  go_wp2_with fail
  refine (refPadded_num _ _ (by omega) (by omega)).mono ?_
  rintro e w3 ⟨rfl, hb⟩
  rw [← HDD.out]
  have HB3 : Hid (Below w.heap.size w w3) := Lib.hid (HB2.out.trans (hb.mono HB2.out.size))
  clear hb
  go_wp2
  go_ret
  refine ⟨⟨y, m, n, HD.out, ?_⟩, HB3.out⟩
  exact congrArg (fun x => Ending.returned (Value.string x)) hfin.out
end Go.Proofs.YtkidjhdfpdecoaaDoor
