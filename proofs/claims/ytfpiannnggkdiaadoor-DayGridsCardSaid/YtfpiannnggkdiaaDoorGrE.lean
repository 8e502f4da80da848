/- DayGrids: the reference's StreakOf. -/
import Derived.Test.YtfpiannnggkdiaaDoorGrD
namespace Go.Proofs.YtfpiannnggkdiaaDoor
open Go.RowKit Go.Maps Go.Shelf

open Classical in
set_option maxRecDepth 100000 in
set_option maxHeartbeats 4000000 in
theorem streakOf_any (l : List Int) (A : Option Addr) (c : Nat) (d : Int) (w : World) (hl : IntsAt w w.heap.size l (.slice A l.length c)) :
    Calls Tryd.prog 8 #[.slice A l.length c, .int .i64 d] w fun e w' => StreakIs l d e ∧ w = w' := by
  by_cases hbig : 5000 < l.length
  · have H : Hid (StreakIs l d (.returned (.tuple #[.int .i64 0, .int .i64 4]))) := Lib.hid (.inl ⟨hbig, rfl⟩)
    have p1 : (5000 : Int) < l.length := by omega
    clear hbig hl
    generalize l.length = n at p1 ⊢
    go_enter Tryd.func8, Tryd.ntmps8
    go_wp2_with fail
    go_ret2
    exact ⟨H.out, rfl⟩
  · have hle : l.length ≤ 5000 := by omega
    clear hbig
    have HBAD : Hid (StreakBad l d → StreakIs l d (.returned (.tuple #[.int .i64 0, .int .i64 2]))) := Lib.hid (fun h => .inr (.inl ⟨hle, h, rfl⟩))
    have HOK : Hid (¬ StreakBad l d → ∀ c : Nat, RunIs l (streak0 l d) c → c ≤ 100001 → StreakIs l d (.returned (.tuple #[.int .i64 c, .int .i64 0]))) := Lib.hid (fun h c h1 h2 => .inr (.inr ⟨hle, h, c, h1, h2, rfl⟩))
    have HCO := Lib.hid (fun x => intContains_any l A c x w hl)
    have HCF := Lib.hid (intContainsFunc_any l A c w hl)
    have p0 : ¬ (5000 : Int) < l.length := by omega
    obtain ⟨n, hn⟩ : ∃ n, n = l.length := ⟨_, rfl⟩
    rw [← hn] at HCO HCF p0 ⊢
    clear hl hle hn
    by_cases hday : DayB d
    · by_cases hbad : ∃ x ∈ l, ¬ DayB x
      · have HE := Lib.hid (HBAD.out (.inl hbad))
        rw [decide_eq_true hbad] at HCF
        obtain ⟨hd0, hd1⟩ := hday
        clear hbad
        go_enter Tryd.func8, Tryd.ntmps8
        go_wp2_with (first
          | (go_at_call 20; refine (refIsDay_yes _ _ hd0 hd1).mono ?_; rintro e w' ⟨rfl, rfl⟩)
          | (go_at_call 21; refine HCF.out.mono ?_; rintro e w' ⟨rfl, rfl⟩))
        go_ret2
        exact ⟨HE.out, rfl⟩
      · have HNB : Hid (¬ StreakBad l d) := Lib.hid (fun h => by
          rcases h with h | h
          · exact hbad h
          · exact h hday)
        have HDS : Hid (∀ x ∈ l, DayB x) := Lib.hid (fun x hx => Classical.byContradiction fun h => hbad ⟨x, hx, h⟩)
        rw [decide_eq_false hbad] at HCF
        obtain ⟨hd0, hd1⟩ := hday
        clear hbad
        by_cases hin : d ∈ l
        case' pos =>
          have hc := HCO.out d
          rw [decide_eq_true hin] at hc
          have hs := streak0_in hin
        case' neg =>
          have hc := HCO.out d
          rw [decide_eq_false hin] at hc
          have hs := streak0_out hin
        all_goals
          have HS := Lib.hid hs
          have HC := Lib.hid hc
          clear hs hc
          go_enter Tryd.func8, Tryd.ntmps8
          go_wp2_with (first
            | (go_at_call 20; refine (refIsDay_yes _ _ hd0 hd1).mono ?_; rintro e w' ⟨rfl, rfl⟩)
            | (go_at_call 21; refine HCF.out.mono ?_; rintro e w' ⟨rfl, rfl⟩)
            | (go_at_call 23; refine HC.out.mono ?_; rintro e w' ⟨rfl, rfl⟩))
          go_loop [6] (fun i => ∃ j : Nat, i = .int .i64 j ∧ j ≤ 100001 ∧ Hid (∀ t : Nat, t < j → streak0 l d - t ∈ l)) (fun i => (streak0 l d + 1).toNat - (intOf i).toNat)
          case atStart => exact ⟨0, rfl, Nat.zero_le _, Lib.hid (fun t ht => absurd ht (Nat.not_lt_zero _))⟩
          case round =>
            obtain ⟨j, rfl, hj, HJ⟩ := hrel
            have hs2 := HS.out
            by_cases hm : streak0 l d - (j : Int) ∈ l
            · have hcj := HCO.out (streak0 l d - j)
              rw [decide_eq_true hm, hs2] at hcj
              have HCJ := Lib.hid hcj
              obtain ⟨g0, g1⟩ := HDS.out _ hm
              have HK : Hid (∀ t : Nat, t < j + 1 → streak0 l d - t ∈ l) := Lib.hid (fun t ht => by
                rcases (by omega : t < j ∨ t = j) with h | h
                · exact HJ.out t h
                · subst h; exact hm)
              clear hcj hm
              go_wp2_with (go_at_call 23; refine HCJ.out.mono ?_; rintro e w' ⟨rfl, rfl⟩)
              go_round
              case rel => exact ⟨j + 1, by go_num, by omega, HK⟩
              case measure => simp [intOf]; omega
            · have hcj := HCO.out (streak0 l d - j)
              rw [decide_eq_false hm, hs2] at hcj
              have HCJ := Lib.hid hcj
              have HE := Lib.hid (HOK.out HNB.out j ⟨HJ.out, hm⟩ hj)
              clear hcj hm
              go_wp2_with (go_at_call 23; refine HCJ.out.mono ?_; rintro e w' ⟨rfl, rfl⟩)
              go_ret2
              exact ⟨HE.out, rfl⟩
    · have HE := Lib.hid (HBAD.out (.inr hday))
      have HX : Hid (d < 0 ∨ 100000 < d) := Lib.hid (by unfold DayB at hday; omega)
      clear hday
      go_enter Tryd.func8, Tryd.ntmps8
      go_wp2_with (first
        | (go_at_call 20; refine (refIsDay_no _ _ HX.out).mono ?_; rintro e w' ⟨rfl, rfl⟩))
      go_ret2
      exact ⟨HE.out, rfl⟩
end Go.Proofs.YtfpiannnggkdiaaDoor
