/- Package text: LinkText, and the law's hasBracket. -/
import Derived.Test.YticdapkljbillaaGreatDoorSpE
import Derived.Test.YticdapkljbillaaGreatDoorTyH
import Derived.WalkKit
import Derived.Lib.Hide
import Derived.Outline
import Derived.Deep.QuietTactic
import Derived.BigQuiet
import Derived.WalkMore
namespace Go.Proofs.YticdapkljbillaaGreatDoor
open Go.RowKit

/-- A string with a bracket. -/
def hasBr (s : ByteArray) : Bool := s.data.toList.any fun c => !cShown c
theorem br_run (s : ByteArray) : decide (runTo cShown s 0 < s.size) = hasBr s := by
  have h := takeWhile_any cShown s.data.toList
  unfold hasBr
  rw [← h]
  unfold runTo
  rw [List.drop_zero, Nat.zero_add, Array.length_toList]
  rfl
theorem br_true {s : ByteArray} {k : Nat} (hk : k < s.size) (h : cShown s[k] = false) : hasBr s = true := by
  unfold hasBr
  rw [List.any_eq_true]
  exact ⟨s[k], mem_at hk, by simp [h]⟩
theorem br_false {s : ByteArray} (h : ∀ j (hj : j < s.size), cShown s[j] = true) : hasBr s = false := by
  unfold hasBr
  rw [List.any_eq_false]
  intro c hc
  obtain ⟨j, hj, rfl⟩ := at_mem hc
  simp [h j hj]

set_option maxHeartbeats 1000000 in
theorem hasBracket_any (s : ByteArray) (w : World) (hs : s.size ≤ 4000000000) :
    Calls Tryz.prog 6 #[.string s] w fun e w' => e = .returned (.bool (hasBr s)) ∧ w' = w := by
  go_enter Tryz.func6, Tryz.ntmps6
  go_wp2
  go_loop [6] (fun i => ∃ k : Nat, k ≤ s.size ∧ i = .int .i64 k ∧ Hid (∀ j (hj : j < s.size), j < k → cShown s[j] = true)) (fun i => s.size - (intOf i).toNat)
  case atStart => exact ⟨0, Nat.zero_le _, rfl, fun j _ hj => by omega⟩
  case round =>
    obtain ⟨k, hk, rfl, hall⟩ := hrel
    by_cases hlt : k < s.size
    · have p1 : (k : Int) < s.size := by omega
      by_cases h1 : (s[k].toNat : Int) = 91
      · have hb : hasBr s = true := br_true hlt (decide_eq_false (fun h => h.1 h1))
        have HB := Lib.hid hb
        have q1 : ((s[k].toNat : Int) == 91) = true := by simpa using h1
        clear hb h1
        go_wp2
        go_ret
        exact ⟨ret_bool HB.out.symm, rfl⟩
      · have q1 : ((s[k].toNat : Int) == 91) = false := by simpa using h1
        by_cases h2 : (s[k].toNat : Int) = 93
        · have hb : hasBr s = true := br_true hlt (decide_eq_false (fun h => h.2 h2))
          have HB := Lib.hid hb
          have q2 : ((s[k].toNat : Int) == 93) = true := by simpa using h2
          clear hb h1 h2
          go_wp2
          go_ret
          exact ⟨ret_bool HB.out.symm, rfl⟩
        · have hb : cShown s[k] = true := decide_eq_true ⟨h1, h2⟩
          have HB := Lib.hid hb
          have q2 : ((s[k].toNat : Int) == 93) = false := by simpa using h2
          clear hb h1 h2
          go_wp2
          go_round
          case rel => exact ⟨k + 1, by omega, by go_num, fun j hj hjk => by
            rcases Nat.lt_succ_iff_lt_or_eq.1 hjk with h | rfl
            · exact hall.out j hj h
            · exact HB.out⟩
          case measure => simp [intOf]; omega
    · have hb : hasBr s = false := br_false fun j hj => hall.out j hj (by omega)
      have HB := Lib.hid hb
      clear hb
      go_wp2
      go_ret
      exact ⟨ret_bool HB.out.symm, rfl⟩

def ltOf (t s : ByteArray) : ByteArray × Nat :=
  if isTgt t = false then (⟨#[]⟩, 3) else if hasBr s = true then (⟨#[]⟩, 1)
  else if s.toList = [] then (⟨#[91, 91]⟩ ++ t ++ ⟨#[93, 93]⟩, 0) else (⟨#[91, 91]⟩ ++ t ++ ⟨#[124]⟩ ++ s ++ ⟨#[93, 93]⟩, 0)
theorem ret_pair {a b : ByteArray} {c d : Int} (h1 : a = b) (h2 : c = d) : Ending.returned (.tuple #[.string a, .int .i64 c]) = .returned (.tuple #[.string b, .int .i64 d]) := by rw [h1, h2]

set_option maxRecDepth 100000 in
set_option maxHeartbeats 4000000 in
theorem linkText_any (t s : ByteArray) (w : World) (ht : t.size ≤ 4000000000) (hs : s.size ≤ 4000000000) :
    Calls Tryz.prog 4 #[.string t, .string s] w fun e w' => e = .returned (.tuple #[.string (ltOf t s).1, .int .i64 ((ltOf t s).2 : Int)]) ∧ w' = w := by
  have hT := fun W => isTarget_any t W ht
  have hR := fun W => runEnd_any isShownByte_class s 0 W (by omega) (by omega) (by omega)
  have hbr := br_run s
  obtain ⟨r, hr⟩ : ∃ r, r = runTo cShown s 0 := ⟨_, rfl⟩
  have hr0 : runTo cShown s (0 : Int).toNat = r := hr.symm
  simp only [hr0] at hR
  rw [← hr] at hbr
  have HR := Lib.hid hR
  obtain ⟨R, hRR⟩ : ∃ R, R = ltOf t s := ⟨_, rfl⟩
  rw [← hRR]
  have HRR := Lib.hid hRR
  clear hr hr0 hR hRR
  cases hb : isTgt t with
  | false =>
    have hv : R = (⟨#[]⟩, 3) := by rw [HRR.out]; unfold ltOf; rw [if_pos hb]
    rw [hb] at hT
    have HT := Lib.hid hT
    subst hv
    clear hb hT hbr
    go_enter Tryz.func4, Tryz.ntmps4
    go_wp2_with fail
    refine (HT.out _).mono ?_
    rintro e1 w1 ⟨rfl, rfl⟩
    go_wp2_with fail
    go_ret2
    exact ⟨rfl, rfl⟩
  | true =>
    rw [hb] at hT
    have HT := Lib.hid hT
    have HTB := Lib.hid hb
    clear hT hb
    cases hc : hasBr s with
    | true =>
      have hv : R = (⟨#[]⟩, 1) := by rw [HRR.out]; unfold ltOf; rw [if_neg (by rw [HTB.out]; simp), if_pos hc]
      have hlt : r < s.size := of_decide_eq_true (hbr.trans hc)
      have p : (r : Int) < s.size := by omega
      subst hv
      clear hc hbr hlt
      go_enter Tryz.func4, Tryz.ntmps4
      go_wp2_with fail
      refine (HT.out _).mono ?_
      rintro e1 w1 ⟨rfl, rfl⟩
      go_wp2_with fail
      refine (HR.out _).mono ?_
      rintro e2 w2 ⟨rfl, rfl⟩
      go_wp2_with fail
      go_ret2
      exact ⟨rfl, rfl⟩
    | false =>
      have hlt : ¬ r < s.size := of_decide_eq_false (hbr.trans hc)
      have p : ¬ (r : Int) < s.size := by omega
      by_cases h0 : s.toList = []
      · have hv : R = (⟨#[91, 91]⟩ ++ t ++ ⟨#[93, 93]⟩, 0) := by rw [HRR.out]; unfold ltOf; rw [if_neg (by rw [HTB.out]; simp), if_neg (by rw [hc]; simp), if_pos h0]
        have hb0 : s.toList.isEmpty = true := by simp [h0]
        have z1 : 2 + t.size ≤ 5000000000 := by omega
        have z2 : 2 + t.size + 2 ≤ 5000000000 := by omega
        subst hv
        clear hc hbr hlt
        go_enter Tryz.func4, Tryz.ntmps4
        go_wp2_with fail
        refine (HT.out _).mono ?_
        rintro e1 w1 ⟨rfl, rfl⟩
        go_wp2_with fail
        refine (HR.out _).mono ?_
        rintro e2 w2 ⟨rfl, rfl⟩
        go_wp2_with fail
        go_ret2
        exact ⟨rfl, rfl⟩
      · have hv : R = (⟨#[91, 91]⟩ ++ t ++ ⟨#[124]⟩ ++ s ++ ⟨#[93, 93]⟩, 0) := by rw [HRR.out]; unfold ltOf; rw [if_neg (by rw [HTB.out]; simp), if_neg (by rw [hc]; simp), if_neg h0]
        have hb0 : s.toList.isEmpty = false := by simp [h0]
        have z1 : 2 + t.size ≤ 9000000000 := by omega
        have z2 : 2 + t.size + 1 ≤ 9000000000 := by omega
        have z3 : 2 + t.size + 1 + s.size ≤ 9000000000 := by omega
        have z4 : 2 + t.size + 1 + s.size + 2 ≤ 9000000000 := by omega
        subst hv
        clear hc hbr hlt
        go_enter Tryz.func4, Tryz.ntmps4
        go_wp2_with fail
        refine (HT.out _).mono ?_
        rintro e1 w1 ⟨rfl, rfl⟩
        go_wp2_with fail
        refine (HR.out _).mono ?_
        rintro e2 w2 ⟨rfl, rfl⟩
        go_wp2_with fail
        go_ret2
        exact ⟨rfl, rfl⟩
end Go.Proofs.YticdapkljbillaaGreatDoor
