/- DayCounts: numbers with zeros before them, the program's. -/
import Derived.Test.YtkidjhdfpdecoaaDoorDcC
import Derived.Test.YtkidjhdfpdecoaaDoorShelf
import Derived.WalkKit
import Derived.Lib.Hide
import Derived.Below
import Derived.Outline
namespace Go.Proofs.YtkidjhdfpdecoaaDoor
open Go.RowKit

def dg (k : Nat) : UInt8 := (48 + k % 10).toUInt8
/-- The last k digits of n. -/
def low (n : Nat) : Nat → List UInt8
  | 0 => []
  | k + 1 => dg (n / 10 ^ k) :: low n k
def pad (n k : Nat) : ByteArray := ⟨(low n k).toArray⟩
theorem dec_one : ∀ i, i < 10 → Lib.decDigits i = [dg i] := by decide +kernel
theorem dec_two : ∀ i, i < 100 → 10 ≤ i → Lib.decDigits i = low i 2 := by decide +kernel
theorem itoa_year : ∀ i, i < 300 → Lib.itoa (((2000 + i : Nat) : Int)) = low (2000 + i) 4 := by decide +kernel
theorem low_small : ∀ i, i < 10 → low i 2 = 48 :: [dg i] := by decide +kernel

theorem low_two (n : Nat) : ∃ a b, low n 2 = [a, b] := ⟨_, _, rfl⟩
theorem low_four (n : Nat) : ∃ a b c d, low n 4 = [a, b, c, d] := ⟨_, _, _, _, rfl⟩
theorem pad_small (n : Nat) (h : n < 10) : (⟨#[48]⟩ ++ ⟨#[dg n]⟩ : ByteArray) = pad n 2 := by
  unfold pad; rw [low_small n h]; apply ByteArray.ext; simp
theorem pad_two {n : Nat} {a b : UInt8} (h : low n 2 = [a, b]) : (⟨#[]⟩ ++ ⟨#[a, b]⟩ : ByteArray) = pad n 2 := by
  unfold pad; rw [h]; apply ByteArray.ext; simp
theorem pad_four {n : Nat} {a b c d : UInt8} (h : low n 4 = [a, b, c, d]) : (⟨#[]⟩ ++ ⟨#[a, b, c, d]⟩ : ByteArray) = pad n 4 := by
  unfold pad; rw [h]; apply ByteArray.ext; simp

set_option maxHeartbeats 400000 in
theorem padded_two (n : Nat) (w : World) (h : n < 100) :
    Calls Tryd.prog 64 #[.int .i64 n, .int .i64 2] w fun e w' => e = .returned (.string (pad n 2)) ∧ w = w' := by
  by_cases h1 : n < 10
  · have HD := Lib.hid (dec_one n h1)
    go_enter Tryd.func64, Tryd.ntmps64
    go_wp2_with fail
    refine (Tryd.strconv_Itoa_small n h _).mono ?_
    rintro e w' ⟨rfl, rfl⟩
    rw [HD.out]
    go_wp2_with fail
    refine (Tryd.strings_Repeat_one _ _).mono ?_
    rintro e w' ⟨rfl, rfl⟩
    go_wp2
    go_ret
    refine ⟨?_, rfl⟩
    exact congrArg (fun x => Ending.returned (Value.string x)) (pad_small n h1)
  · obtain ⟨a, b, hab⟩ := low_two n
    have HD := Lib.hid (dec_two n h (by omega))
    rw [hab] at HD
    have HA := Lib.hid (pad_two hab)
    clear hab
    go_enter Tryd.func64, Tryd.ntmps64
    go_wp2_with fail
    refine (Tryd.strconv_Itoa_small n h _).mono ?_
    rintro e w' ⟨rfl, rfl⟩
    rw [HD.out]
    go_wp2_with fail
    refine (Tryd.strings_Repeat_zero _ _).mono ?_
    rintro e w' ⟨rfl, rfl⟩
    go_wp2
    go_ret
    refine ⟨?_, rfl⟩
    exact congrArg (fun x => Ending.returned (Value.string x)) HA.out

theorem below_grow (w : World) (k : Nat) (os : Array Obj) : Below w.heap.size w (Sort.grow (w.drewN k) os) :=
  ⟨rfl, rfl, rfl, by simp, fun b hb => by rw [Sort.heap_grow_old _ _ (by simpa using hb)]; rfl⟩

/-- The table of the powers of ten lies where it was laid. -/
def Pow (w : World) : Prop := Lib.TabIs Tryd.prog w "internal/strconv.uint64pow10" .u64 Lib.pow10Tab

set_option maxHeartbeats 400000 in
theorem padded_four (n : Nat) (w : World) (h : n < 300) (hp : Pow w) :
    Calls Tryd.prog 64 #[.int .i64 ((2000 + n : Nat) : Int), .int .i64 4] w fun e w' => e = .returned (.string (pad (2000 + n) 4)) ∧ Below w.heap.size w w' := by
  have HP := Lib.hid hp
  clear hp
  obtain ⟨a, b, c, d, hab⟩ := low_four (2000 + n)
  have HD := Lib.hid (itoa_year n h)
  rw [hab] at HD
  have HA := Lib.hid (pad_four hab)
  clear hab
  obtain ⟨y, hy⟩ : ∃ y : Int, y = ((2000 + n : Nat) : Int) := ⟨_, rfl⟩
  rw [← hy] at HD ⊢
  have y1 : 0 ≤ y := by omega
  have y2 : y ≤ 10000 := by omega
  clear hy
  go_enter Tryd.func64, Tryd.ntmps64
  go_wp2_with fail
  refine (Tryd.strconv_Itoa y (by omega) (by omega) _ HP.out).mono ?_
  rintro e w1 ⟨rfl, k, os, hw1⟩
  have HB : Hid (Below w.heap.size w w1) := Lib.hid (by rw [hw1]; exact below_grow w k os)
  clear hw1
  rw [HD.out]
  go_wp2_with fail
  refine (Tryd.strings_Repeat_zero _ _).mono ?_
  rintro e w' ⟨rfl, rfl⟩
  go_wp2
  go_ret
  refine ⟨?_, HB.out⟩
  exact congrArg (fun x => Ending.returned (Value.string x)) HA.out
end Go.Proofs.YtkidjhdfpdecoaaDoor
