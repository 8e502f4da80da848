/- The reference's told: a number in digits; inRange. -/
import Derived.Test.YticdapkljbillaaGreatDoorTgD
import Derived.Lib.ItoaNum
import Derived.Laws.IdiomStrings
import Derived.WalkKit
import Derived.Lib.Hide
import Derived.Outline
import Derived.Deep.QuietTactic
import Derived.BigQuiet
namespace Go.Proofs.YticdapkljbillaaGreatDoor
open Go.RowKit

def dec (n : Nat) : ByteArray := ⟨(Lib.decDigits n).toArray⟩
theorem dec_small {n : Nat} (h : n < 10) : dec n = ⟨#[UInt8.ofNat (48 + n)]⟩ := by unfold dec; rw [Lib.decDigits_one h]
theorem dec_big {n : Nat} (h : ¬ n < 10) : dec n = dec (n / 10) ++ dec (n % 10) := by
  apply ByteArray.ext
  apply Array.ext'
  rw [ByteArray.data_append, Array.toList_append]
  unfold dec
  simp only
  rw [Lib.decDigits, dif_neg h, Lib.decDigits_one (show n % 10 < 10 by omega)]
theorem dec_size {n k : Nat} (h : n < 10 ^ (k + 1)) : (dec n).size ≤ k + 1 := by
  have e : (dec n).size = (Lib.decDigits n).length := by simp [dec, ByteArray.size]
  rw [e]
  induction k generalizing n with
  | zero => rw [Lib.decDigits_one (by simpa using h)]; simp
  | succ k ih =>
    by_cases h10 : n < 10
    · rw [Lib.decDigits_one h10]; simp
    · rw [Lib.decDigits, dif_neg h10, List.length_append, List.length_singleton]
      have h2 : n / 10 < 10 ^ (k + 1) := by rw [Nat.pow_succ] at h; omega
      have h3 := ih h2 (by simp [dec, ByteArray.size])
      omega

theorem byte_code {n : Nat} (h : n < 10) : IntKind.u8.wrap (48 + (n : Int)) = ((UInt8.ofNat (48 + n)).toNat : Int) := by
  have : (UInt8.ofNat (48 + n)).toNat = 48 + n := by simp; omega
  rw [this]
  rw [IntWalk.u8_in _ (by omega)]
  omega

set_option maxRecDepth 100000 in
set_option maxHeartbeats 4000000 in
theorem told_small (n : Nat) (w : World) (h10 : n < 10) : Calls Tryz.prog 27 #[.int .i64 n] w (Quiet w (.string (dec n))) := by
  have p1 : (n : Int) < 10 := by omega
  have p2 : ¬ (n : Int) < 0 := by omega
  have HD := Lib.hid (dec_small h10)
  have hcode : (48 + (n : Int)) = ((UInt8.ofNat (48 + n)).toNat : Int) := by
    have : (UInt8.ofNat (48 + n)).toNat = 48 + n := by simp; omega
    rw [this]; omega
  obtain ⟨b, hb⟩ : ∃ b, b = UInt8.ofNat (48 + n) := ⟨_, rfl⟩
  rw [← hb] at hcode HD
  have hcv : (convert 43 9 (.slice (some ⟨w.heap.size, 0, none⟩) 1 1)).run Tryz.prog (w.alloc (.cells #[.int .u8 (48 + (n : Int))] 5)) = .ok (.string ⟨#[b]⟩) (w.alloc (.cells #[.int .u8 (48 + (n : Int))] 5)) := by
    refine run_convert_bytes_back (P := Tryz.prog) (w.alloc (.cells #[.int .u8 (48 + (n : Int))] 5)) 43 9 5 ⟨w.heap.size, 0, none⟩ 1 [b] Tryz.underlying43 Tryz.underlying5 Tryz.underlying9 ?_
    intro j hj
    obtain rfl : j = 0 := by simpa using hj
    have h := heap_alloc_new w (.cells #[.int .u8 (48 + (n : Int))] 5)
    rw [addr_plus, cell_of_row _ _ _ _ _ (0, 0) h, hcode]
    rfl
  clear hb hcode
  go_enter Tryz.func27, Tryz.ntmps27
  go_wp2_with fail
  go_ret
  exact ⟨by rw [HD.out]; rfl, (Below.refl _ _).alloc (Nat.le_refl _) _⟩
set_option maxRecDepth 100000 in
set_option maxHeartbeats 4000000 in
theorem told_any (k : Nat) : ∀ (n : Nat) (w : World), n < 10 ^ (k + 1) → n ≤ 1000000 →
    Calls Tryz.prog 27 #[.int .i64 n] w (Quiet w (.string (dec n))) := by
  induction k with
  | zero =>
    intro n w hk _
    exact told_small n w (by simpa using hk)
  | succ k ih =>
    intro n w hk hn
    by_cases h10 : n < 10
    · exact told_small n w h10
    · have p1 : ¬ (n : Int) < 10 := by omega
      have p2 : ¬ (n : Int) < 0 := by omega
      have h1 : n / 10 < 10 ^ (k + 1) := by rw [Nat.pow_succ] at hk; omega
      have h2 : n % 10 < 10 ^ (k + 1) := Nat.lt_of_lt_of_le (Nat.mod_lt n (by omega)) (by rw [Nat.pow_succ]; have := Nat.one_le_pow k 10 (by omega); omega)
      have c1 := fun W => ih (n / 10) W h1 (by omega)
      have c2 := fun W => ih (n % 10) W h2 (by omega)
      have e1 : ((n / 10 : Nat) : Int) = (n : Int) / 10 := by omega
      have e2 : ((n % 10 : Nat) : Int) = (n : Int) % 10 := by omega
      rw [e1] at c1
      rw [e2] at c2
      have C1 := Lib.hid c1
      have C2 := Lib.hid c2
      have HD := Lib.hid (dec_big h10)
      have z1 : (dec (n / 10)).size + (dec (n % 10)).size ≤ 1000 := by
        have a1 := dec_size (k := 6) (n := n / 10) (by omega)
        have a2 := dec_size (k := 6) (n := n % 10) (by omega)
        omega
      clear c1 c2 e1 e2 h1 h2 ih hk
      go_enter Tryz.func27, Tryz.ntmps27
      go_wp2_with fail
      refine (C1.out _).mono ?_
      rintro e3 w3 ⟨rfl, hb3⟩
      have HB3 := Lib.hid hb3
      clear hb3
      go_wp2_with fail
      refine (C2.out _).mono ?_
      rintro e4 w4 ⟨rfl, hb4⟩
      have HB4 := Lib.hid (HB3.out.trans (hb4.mono HB3.out.size))
      clear hb4
      go_wp2_with fail
      go_ret
      exact ⟨by rw [HD.out]; rfl, HB4.out⟩
end Go.Proofs.YticdapkljbillaaGreatDoor
