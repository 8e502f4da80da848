/- TextMarks, part 4: slices.Equal over lists of numbers. -/
import Derived.Test.YtjfpaahidfhkoaaMarkB
import Derived.WalkKit
import Derived.Lib.Hide
import Derived.Deep.QuietTactic
import Derived.BigQuiet
namespace Go.Proofs.Ytjfpaahidfhkoaa
open Go.RowKit

/-- It says whether the two lists are one, and changes nothing. -/
def Says (w : World) (p : Prop) [Decidable p] (e : Ending) (w' : World) : Prop := e = .returned (.bool (decide p)) ∧ ∃ n, w' = w.drewN n

theorem IntsAt.drewN {w : World} {B : Nat} {A : Option Addr} {zs : List Int} (h : IntsAt w B A zs) (n : Nat) : IntsAt (w.drewN n) B A zs := h

set_option maxHeartbeats 1000000 in
theorem equalInts_any (A A' : Option Addr) (c c' : Nat) (zs ys : List Int) (w : World) (hz : IntsAt w w.heap.size A zs) (hy : IntsAt w w.heap.size A' ys)
    (hn : zs.length ≤ 9223372036854775807) :
    Calls Try.prog 13 #[.slice A zs.length c, .slice A' ys.length c'] w (Says w (zs = ys)) := by
  by_cases hl : zs.length = ys.length
  · have hne : ((zs.length : Int) == (ys.length : Int)) = true := by simp [hl]
    have hne' : ((zs.length : Int) != (ys.length : Int)) = false := by simp [hl]
    have HL := Lib.hid hl
    clear hl
    go_enter Try.func13, Try.ntmps13
    go_wp2
    go_loopw [13] (fun i wr => ∃ k n : Nat, k ≤ zs.length ∧ i = .int .i64 k ∧ wr = w.drewN n ∧ ∀ j, j < k → zs.getD j 0 = ys.getD j 0) (fun i _ => zs.length - (intOf i).toNat)
    case atStart => exact ⟨0, 0, Nat.zero_le _, rfl, rfl, fun j hj => by omega⟩
    case round =>
      obtain ⟨k, n, hk, rfl, rfl, hall⟩ := hrel
      have HA := Lib.hid hall
      clear hall
      by_cases hlt : k < zs.length
      · have hlt' : k < ys.length := by have := HL.out; omega
        obtain ⟨b, off, rfl, hb, hc⟩ := hz k hlt
        obtain ⟨b', off', rfl, hb', hc'⟩ := hy k hlt'
        obtain ⟨m, hm⟩ : ∃ m, m = zs.getD k 0 := ⟨_, rfl⟩
        obtain ⟨m', hm'⟩ : ∃ m', m' = ys.getD k 0 := ⟨_, rfl⟩
        rw [← hm] at hc
        rw [← hm'] at hc'
        have HM := Lib.hid hm
        have HM' := Lib.hid hm'
        clear hm hm'
        have i1 : (k : Int) < (zs.length : Int) := by omega
        have i2 : (k : Int) < (ys.length : Int) := by omega
        by_cases heq : m = m'
        · have q1 : (m != m') = false := by simp [heq]
          have q2 : (m == m') = true := by simp [heq]
          have HQ := Lib.hid heq
          clear heq
          go_wp2
          go_quiet (fail)
          go_wp2
          go_roundw
          case rel =>
            refine ⟨k + 1, n + _, by omega, by go_num, rfl, fun j hj => ?_⟩
            rcases Nat.lt_succ_iff_lt_or_eq.1 hj with h | rfl
            · exact HA.out j h
            · rw [← HM.out, ← HM'.out]; exact HQ.out
          case measure => simp [intOf]; omega
        · have q1 : (m != m') = true := by simp [heq]
          have q2 : (m == m') = false := by simp [heq]
          have HQ := Lib.hid heq
          clear heq
          go_wp2
          go_quiet (fail)
          go_wp2
          go_ret
          refine ⟨?_, _, World.drewN_drewN _ _ _⟩
          have hne : zs ≠ ys := fun e => HQ.out (by rw [HM.out, HM'.out, e])
          simp [hne]
      · have e : k = zs.length := by omega
        have HE := Lib.hid e
        clear e
        go_wp2
        go_ret
        refine ⟨?_, n, rfl⟩
        have he : zs = ys := List.ext_getElem HL.out fun j h1 h2 => by
          have := HA.out j (by have := HE.out; omega)
          simpa [List.getD_eq_getElem?_getD, h1, h2] using this
        simp [he]
  · have hne : ((zs.length : Int) == (ys.length : Int)) = false := by simp; omega
    have hne' : ((zs.length : Int) != (ys.length : Int)) = true := by simp; omega
    have HL := Lib.hid hl
    clear hl
    go_enter Try.func13, Try.ntmps13
    go_wp2
    go_ret
    refine ⟨?_, 0, rfl⟩
    have hne : zs ≠ ys := fun e => HL.out (by rw [e])
    simp [hne]
end Go.Proofs.Ytjfpaahidfhkoaa
