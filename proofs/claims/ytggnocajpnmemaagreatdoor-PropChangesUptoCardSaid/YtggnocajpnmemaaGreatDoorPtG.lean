/- Properties: days, checkFields. -/
import Derived.Test.YtggnocajpnmemaaGreatDoorPtF
import Derived.WalkKit
import Derived.Lib.Hide
import Derived.Outline
import Derived.Below
import Derived.Deep.QuietTactic
import Derived.BigQuiet
namespace Go.Proofs.YtggnocajpnmemaaGreatDoor
open Go.RowKit Go.Shelf

def daysE (a b : Int) : Int := if inR a 0 100000 = false ∨ inR b 0 100000 = false then 2 else if b < a then 5 else 0
set_option maxHeartbeats 2000000 in
theorem days_any (a b : Int) (w : World) : Calls Tryz.prog 100 #[.int .i64 a, .int .i64 b] w fun e w' => (∃ x y : Int, e = .returned (.tuple #[.int .i64 x, .int .i64 y, .int .i64 (daysE a b)])) ∧ w' = w := by
  have HA := Lib.hid (fun W => isDay_any a W)
  have HB := Lib.hid (fun W => isDay_any b W)
  rcases h1 : inR a 0 100000 with _ | _
  · rw [h1] at HA
    have HE : Hid (daysE a b = 2) := Lib.hid (by unfold daysE; rw [if_pos (.inl h1)])
    clear h1
    go_enter Tryz.func100, Tryz.ntmps100
    go_wp2_with fail
    refine (HA.out _).mono ?_
    rintro e1 w1 ⟨rfl, hw⟩
    rw [hw]
    clear hw
    go_wp2_with fail
    go_ret3
    exact ⟨⟨0, 0, by rw [HE.out]; rfl⟩, rfl⟩
  · rw [h1] at HA
    rcases h2 : inR b 0 100000 with _ | _
    · rw [h2] at HB
      have HE : Hid (daysE a b = 2) := Lib.hid (by unfold daysE; rw [if_pos (.inr h2)])
      clear h1 h2
      go_enter Tryz.func100, Tryz.ntmps100
      go_wp2_with fail
      refine (HA.out _).mono ?_
      rintro e1 w1 ⟨rfl, hw⟩
      rw [hw]
      clear hw
      go_wp2_with fail
      refine (HB.out _).mono ?_
      rintro e2 w2 ⟨rfl, hw⟩
      rw [hw]
      clear hw
      go_wp2_with fail
      go_ret3
      exact ⟨⟨0, 0, by rw [HE.out]; rfl⟩, rfl⟩
    · rw [h2] at HB
      by_cases h3 : b < a
      · have HE : Hid (daysE a b = 5) := Lib.hid (by unfold daysE; rw [if_neg (by rw [h1, h2]; simp), if_pos h3])
        clear h1 h2
        go_enter Tryz.func100, Tryz.ntmps100
        go_wp2_with fail
        refine (HA.out _).mono ?_
        rintro e1 w1 ⟨rfl, hw⟩
        rw [hw]
        clear hw
        go_wp2_with fail
        refine (HB.out _).mono ?_
        rintro e2 w2 ⟨rfl, hw⟩
        rw [hw]
        clear hw
        go_wp2_with fail
        go_ret3
        exact ⟨⟨0, 0, by rw [HE.out]; rfl⟩, rfl⟩
      · have HE : Hid (daysE a b = 0) := Lib.hid (by unfold daysE; rw [if_neg (by rw [h1, h2]; simp), if_neg h3])
        clear h1 h2
        go_enter Tryz.func100, Tryz.ntmps100
        go_wp2_with fail
        refine (HA.out _).mono ?_
        rintro e1 w1 ⟨rfl, hw⟩
        rw [hw]
        clear hw
        go_wp2_with fail
        refine (HB.out _).mono ?_
        rintro e2 w2 ⟨rfl, hw⟩
        rw [hw]
        clear hw
        go_wp2_with fail
        go_ret3
        exact ⟨⟨a, b, by rw [HE.out]; rfl⟩, rfl⟩
end Go.Proofs.YtggnocajpnmemaaGreatDoor
