/- DayCounts: Months, the program's and the reference's. -/
import Derived.Test.YtkidjhdfpdecoaaDoorDcB
import Derived.WalkKit
import Derived.Lib.Hide
import Derived.Below
import Derived.Deep.DeepCutAuto
import Derived.Deep.CutBlock
namespace Go.Proofs.YtkidjhdfpdecoaaDoor
open Go.RowKit

/-- What Months gives of a day with the date y, m, c. -/
def MonIs (y m c k : Int) (e : Ending) : Prop :=
  (Cal.monOk y m c k = true ∧ e = .returned (.tuple #[.int .i64 (Cal.monD y m c k), .int .i64 0])) ∨
  (Cal.monOk y m c k = false ∧ e = .returned (.tuple #[.int .i64 0, .int .i64 2]))

theorem monOk_iff (y m c k : Int) : Cal.monOk y m c k = true ↔ (0 ≤ (y - 2001) * 12 + m - 1 + k ∧ (y - 2001) * 12 + m - 1 + k ≤ 3287 ∧ Cal.monD y m c k ≤ 100000) := by unfold Cal.monOk; simp
theorem monOk_not (y m c k : Int) : Cal.monOk y m c k = false ↔ ¬ (0 ≤ (y - 2001) * 12 + m - 1 + k ∧ (y - 2001) * 12 + m - 1 + k ≤ 3287 ∧ Cal.monD y m c k ≤ 100000) := by rw [← monOk_iff]; simp

theorem months_bad (d k : Int) (w : World) (h : d < 0 ∨ 100000 < d) :
    Calls Tryd.prog 10 #[.int .i64 d, .int .i64 k] w fun e w' => e = .returned (.tuple #[.int .i64 0, .int .i64 2]) ∧ w = w' := by
  have H := Lib.hid h
  clear h
  go_enter Tryd.func10, Tryd.ntmps10
  go_wp2_with (go_at_call 33; refine (isDay_no _ _ H.out).mono ?_; rintro e w' ⟨rfl, rfl⟩)
  go_ret2
  exact ⟨rfl, rfl⟩

set_option maxHeartbeats 1000000 in
theorem months_any (d k : Int) (w : World) (h0 : 0 ≤ d) (h1 : d ≤ 100000) (ht : Tab w) :
    Calls Tryd.prog 10 #[.int .i64 d, .int .i64 k] w fun e w' => (∃ y m c, Cal.DateIs d y m c ∧ MonIs y m c k e) ∧ w = w' := by
  have HT := Lib.hid ht
  clear ht
  go_enter Tryd.func10, Tryd.ntmps10
  go_wp2_with (go_at_call 33; refine (isDay_yes _ _ h0 h1).mono ?_; rintro e w' ⟨rfl, rfl⟩)
  refine (dateOf_any _ _ h0 (by omega) HT.out).mono ?_
  rintro e w' ⟨y, m, c, hd, rfl, rfl⟩
  have hy1 := hd.1.1
  have hy2 := Cal.ys_lo y hy1
  have hy3 := hd.1.2.1
  have m1 := hd.2.1
  have m2 := hd.2.2.1
  have c1 := hd.2.2.2.1
  have c2 := hd.2.2.2.2.1
  have mb := Cal.ml_bd y m m1 m2
  have HD := Lib.hid hd
  clear hd
  obtain ⟨a, ha⟩ : ∃ a, a = (y - 2001) * 12 + m - 1 := ⟨_, rfl⟩
  have a0 : 0 ≤ a := by omega
  have a1 : a ≤ 12000 := by omega
  have HA := Lib.hid ha
  have hend : (a + k < 0 ∨ 3287 < a + k) → ∃ y m c, Cal.DateIs d y m c ∧ MonIs y m c k (.returned (.tuple #[.int .i64 0, .int .i64 2])) := fun h =>
    ⟨y, m, c, HD.out, .inr ⟨(monOk_not _ _ _ _).2 (by rw [← HA.out]; omega), rfl⟩⟩
  have HE := Lib.hid hend
  clear hend
  rcases (by omega : k < -a ∨ (-a ≤ k ∧ 3287 - a < k) ∨ (-a ≤ k ∧ k ≤ 3287 - a)) with hk | ⟨hk0, hk⟩ | ⟨hk0, hk⟩
  · go_upto_region 5 with (fail)
    rw [← HA.out]
    clear ha
    go_wp2
    go_ret2
    exact ⟨HE.out (by omega), rfl⟩
  · go_upto_region 5 with (fail)
    rw [← HA.out]
    clear ha
    go_wp2
    go_ret2
    exact ⟨HE.out (by omega), rfl⟩
  · have EY : Hid (2001 + (a + k) / 12 = Cal.monY y m k) := Lib.hid (by unfold Cal.monY; rw [HA.out])
    have EM : Hid ((a + k) % 12 + 1 = Cal.monM y m k) := Lib.hid (by unfold Cal.monM; rw [HA.out])
    have yb1 : 2001 ≤ Cal.monY y m k := by rw [← EY.out]; omega
    have yb2 : Cal.monY y m k ≤ 2274 := by rw [← EY.out]; omega
    obtain ⟨mb1, mb2⟩ := Cal.monM_bd y m k
    have lb := Cal.ml_bd (Cal.monY y m k) (Cal.monM y m k) mb1 mb2
    go_upto_region 5 with (fail)
    rw [← HA.out]
    clear ha
    go_upto_region 8 with (fail)
    rw [EY.out, EM.out]
    have hpost : ∀ e, DayIs (Cal.monY y m k) (Cal.monM y m k) (min c (Cal.ml (Cal.monY y m k) (Cal.monM y m k))) e → ∃ y m c, Cal.DateIs d y m c ∧ MonIs y m c k e := by
      intro e he
      refine ⟨y, m, c, HD.out, ?_⟩
      have hm1 : min c (Cal.ml (Cal.monY y m k) (Cal.monM y m k)) ≤ Cal.ml (Cal.monY y m k) (Cal.monM y m k) := Int.min_le_right _ _
      have hm2 : 1 ≤ min c (Cal.ml (Cal.monY y m k) (Cal.monM y m k)) := by rw [Int.le_min]; omega
      rcases he with ⟨_, h2, rfl⟩ | ⟨h, rfl⟩
      · exact .inl ⟨(monOk_iff _ _ _ _).2 ⟨by rw [← HA.out]; omega, by rw [← HA.out]; omega, h2⟩, rfl⟩
      · exact .inr ⟨(monOk_not _ _ _ _).2 fun g => h ⟨⟨yb1, yb2, mb1, mb2, hm2, hm1⟩, g.2.2⟩, rfl⟩
    have HP := Lib.hid hpost
    clear hpost
    generalize Cal.monY y m k = Y at *
    generalize Cal.monM y m k = M at *
    go_wp2_with (first
      | (go_at_call 28; refine (monthLength_any _ _ _ (by omega) mb1 mb2 HT.out).mono ?_; rintro e w' ⟨rfl, rfl⟩)
      )
    all_goals
      refine (dayOf_any _ _ _ _ HT.out).mono ?_
      rintro e w' ⟨he, rfl⟩
      first
        | (have HH := Lib.hid (HP.out e (by rw [show min c (Cal.ml Y M) = Cal.ml Y M by omega]; exact he)))
        | (have HH := Lib.hid (HP.out e (by rw [show min c (Cal.ml Y M) = c by omega]; exact he)))
      rcases he with ⟨_, _, rfl⟩ | ⟨_, rfl⟩
      · go_wp2
        go_ret2
        exact ⟨HH.out, rfl⟩
      · go_wp2
        go_ret2
        exact ⟨HH.out, rfl⟩

theorem monthsFrom_bad (d k : Int) (w : World) (h : d < 0 ∨ 100000 < d) :
    Calls Tryd.prog 11 #[.int .i64 d, .int .i64 k] w fun e w' => e = .returned (.tuple #[.int .i64 0, .int .i64 2]) ∧ w = w' := by
  have H := Lib.hid h
  clear h
  go_enter Tryd.func11, Tryd.ntmps11
  go_wp2_with (go_at_call 15; refine (refIsDay_no _ _ H.out).mono ?_; rintro e w' ⟨rfl, rfl⟩)
  go_ret2
  exact ⟨rfl, rfl⟩

theorem date_year_bd {d y m c : Int} (h : Cal.DateIs d y m c) (h1 : d ≤ 100000) : 2001 ≤ y ∧ y ≤ 2274 ∧ 1 ≤ m ∧ m ≤ 12 ∧ 1 ≤ c ∧ c ≤ 31 := by
  obtain ⟨⟨y1, y2, y3⟩, m1, m2, c1, c2, _⟩ := h
  have mb := Cal.ml_bd y m m1 m2
  refine ⟨y1, ?_, m1, m2, c1, by omega⟩
  by_cases hy : y ≤ 2274
  · exact hy
  · have a := Cal.ys_mono 2275 y (by omega)
    rw [ys_2275] at a; omega

theorem date_of (d : Int) (h0 : 0 ≤ d) : ∃ y m c, Cal.DateIs d y m c := by
  obtain ⟨_, _, _, _, g1, g2⟩ := p_date d h0
  rcases (by omega : pM d ≤ 9 ∨ 10 ≤ pM d) with h | h
  · exact ⟨_, _, _, g1 h⟩
  · exact ⟨_, _, _, g2 h⟩
theorem mon_low (y m c k : Int) (hc : 1 ≤ c) (h : 0 ≤ (y - 2001) * 12 + m - 1 + k) : 0 ≤ Cal.monD y m c k := by
  have bd := Cal.monM_bd y m k
  have mb := Cal.ml_bd (Cal.monY y m k) (Cal.monM y m k) bd.1 bd.2
  have cb := Cal.cum_bd (Cal.monY y m k) (Cal.monM y m k) bd.1 (by omega)
  have hY : 2001 ≤ Cal.monY y m k := by unfold Cal.monY; omega
  have a := Cal.ys_mono _ _ hY
  rw [Cal.ys_2001] at a
  unfold Cal.monD
  omega

set_option maxHeartbeats 1000000 in
theorem monthsFrom_any (d k : Int) (w : World) (h0 : 0 ≤ d) (h1 : d ≤ 100000) :
    Calls Tryd.prog 11 #[.int .i64 d, .int .i64 k] w fun e w' => (∃ y m c, Cal.DateIs d y m c ∧ MonIs y m c k e) ∧ Below w.heap.size w w' := by
  by_cases hk : -5000 ≤ k ∧ k ≤ 5000
  · obtain ⟨k1, k2⟩ := hk
    go_enter Tryd.func11, Tryd.ntmps11
    go_wp2_with (go_at_call 15; refine (refIsDay_yes _ _ h0 h1).mono ?_; rintro e w' ⟨rfl, rfl⟩)
    refine (parts_any _ _ h0 (by omega)).mono ?_
    rintro e w' ⟨⟨y, m, c, hd, rfl⟩, rfl⟩
    obtain ⟨y1, y2, m1, m2, c1, c2⟩ := date_year_bd hd h1
    have HD := Lib.hid hd
    clear hd
    have eF := Cal.ref_first y m k 1
    have eN := Cal.ref_next y m k
    have hY1 : 1 ≤ Cal.monY y m k := by unfold Cal.monY; omega
    have hY2 : Cal.monY y m k ≤ 20000 := by unfold Cal.monY; omega
    obtain ⟨mb1, mb2⟩ := Cal.monM_bd y m k
    have lb := Cal.ml_bd (Cal.monY y m k) (Cal.monM y m k) mb1 mb2
    have yb := ys_wide _ hY1 hY2
    have cb := Cal.cum_bd (Cal.monY y m k) (Cal.monM y m k) mb1 (by omega)
    have hout := Cal.ref_out y m c k c1
    have hcond : ∀ D, D = Cal.refDay y (m + k) 1 + (min c (Cal.refDay y (m + k + 1) 1 - Cal.refDay y (m + k) 1) - 1) → D = Cal.monD y m c k := by
      intro D hD
      rw [hD, eN, eF]; unfold Cal.monD; omega
    have hok : 0 ≤ Cal.monD y m c k → Cal.monD y m c k ≤ 100000 → ∃ y' m' c', Cal.DateIs d y' m' c' ∧ MonIs y' m' c' k (.returned (.tuple #[.int .i64 (Cal.monD y m c k), .int .i64 0])) := fun g1 g2 =>
      ⟨y, m, c, HD.out, .inl ⟨(monOk_iff _ _ _ _).2 ⟨by omega, by omega, g2⟩, rfl⟩⟩
    have hno : (Cal.monD y m c k < 0 ∨ 100000 < Cal.monD y m c k) → ∃ y m c, Cal.DateIs d y m c ∧ MonIs y m c k (.returned (.tuple #[.int .i64 0, .int .i64 2])) := fun g =>
      ⟨y, m, c, HD.out, .inr ⟨(monOk_not _ _ _ _).2 fun h => by
        rcases g with g | g
        · have := mon_low y m c k c1 h.1; omega
        · omega, rfl⟩⟩
    obtain ⟨F, hF⟩ : ∃ F, F = Cal.refDay y (m + k) 1 := ⟨_, rfl⟩
    obtain ⟨N, hN⟩ : ∃ N, N = Cal.refDay y (m + k + 1) 1 := ⟨_, rfl⟩
    rw [← hF, ← hN] at eN hcond
    rw [← hF] at eF
    have f1 : -1000000 ≤ F := by rw [eF]; omega
    have f2 : F ≤ 20000000 := by rw [eF]; omega
    have n1 : 28 ≤ N - F := by rw [eN]; omega
    have n2 : N - F ≤ 31 := by rw [eN]; omega
    have HF := Lib.hid hF
    have HN := Lib.hid hN
    have HC := Lib.hid hcond
    have HO := Lib.hid hok
    have HX := Lib.hid hno
    clear hF hN hcond hok hno eF eN lb yb cb hout hY1 hY2 mb1 mb2
    go_upto_region 4 with (fail)
    go_wp2_with fail
    refine (refDateOf_any _ _ _ _ (by omega) (by omega) (by omega) (by omega) (by omega) (by omega) (by omega)).mono ?_
    rintro e w1 ⟨rfl, hb1⟩
    rw [← HF.out]
    have HB1 := Lib.hid hb1
    clear hb1
    go_wp2_with fail
    refine (refDateOf_any _ _ _ _ (by omega) (by omega) (by omega) (by omega) (by omega) (by omega) (by omega)).mono ?_
    rintro e w2 ⟨rfl, hb2⟩
    rw [← HN.out]
    have HB2 : Hid (Below w.heap.size w w2) := Lib.hid (HB1.out.trans (hb2.mono HB1.out.size))
    clear hb2
    go_wp2_with fail
    all_goals
      first
        | (have hD := HC.out (F + (N - F - 1)) (by rw [show min c (N - F) = N - F by omega]))
        | (have hD := HC.out (F + (c - 1)) (by rw [show min c (N - F) = c by omega]))
      rw [hD]
      clear hD
      generalize Cal.monD y m c k = D at *
      by_cases hd : 0 ≤ D ∧ D ≤ 100000
      · obtain ⟨d1, d2⟩ := hd
        refine (refDay_yes _ _ d1 d2).mono ?_
        rintro e w' ⟨rfl, rfl⟩
        go_wp2
        go_ret2
        exact ⟨HO.out d1 d2, HB2.out⟩
      · have hd' : D < 0 ∨ 100000 < D := by omega
        have HD' := Lib.hid hd'
        clear hd hd'
        refine (refDay_no _ _ HD'.out).mono ?_
        rintro e w' ⟨rfl, rfl⟩
        go_wp2
        go_ret2
        exact ⟨HX.out HD'.out, HB2.out⟩
  · have hex := date_of d h0
    obtain ⟨y, m, c, hd⟩ := hex
    obtain ⟨y1, y2, m1, m2, c1, c2⟩ := date_year_bd hd h1
    have hend : ∃ y m c, Cal.DateIs d y m c ∧ MonIs y m c k (.returned (.tuple #[.int .i64 0, .int .i64 2])) :=
      ⟨y, m, c, hd, .inr ⟨(monOk_not _ _ _ _).2 (by omega), rfl⟩⟩
    have HE := Lib.hid hend
    clear hend hd
    rcases (by omega : k < -5000 ∨ (-5000 ≤ k ∧ 5000 < k)) with hk1 | ⟨hk1, hk2⟩
    all_goals
      clear hk
      go_enter Tryd.func11, Tryd.ntmps11
      go_wp2_with (go_at_call 15; refine (refIsDay_yes _ _ h0 h1).mono ?_; rintro e w' ⟨rfl, rfl⟩)
      go_ret2
      exact ⟨HE.out, Below.refl _ _⟩

theorem DayIs.one {y m n : Int} {e e' : Ending} (h : DayIs y m n e) (g : DayIs y m n e') : e = e' := by
  rcases h with ⟨a, b, rfl⟩ | ⟨a, rfl⟩ <;> rcases g with ⟨a', b', rfl⟩ | ⟨a', rfl⟩
  · rfl
  · exact absurd ⟨a, b⟩ a'
  · exact absurd ⟨a', b'⟩ a
  · rfl
theorem DayIs.form {y m n : Int} {e : Ending} (h : DayIs y m n e) : ∃ D E : Int, e = .returned (.tuple #[.int .i64 D, .int .i64 E]) := by
  rcases h with ⟨_, _, rfl⟩ | ⟨_, rfl⟩ <;> exact ⟨_, _, rfl⟩
/-- What Months gives, whatever the day. -/
def MonOf (d k : Int) (e : Ending) : Prop :=
  ((d < 0 ∨ 100000 < d) ∧ e = .returned (.tuple #[.int .i64 0, .int .i64 2])) ∨ (¬ (d < 0 ∨ 100000 < d) ∧ ∃ y m c, Cal.DateIs d y m c ∧ MonIs y m c k e)
theorem MonIs.one {y m c k : Int} {e e' : Ending} (h : MonIs y m c k e) (g : MonIs y m c k e') : e = e' := by
  rcases h with ⟨a, rfl⟩ | ⟨a, rfl⟩ <;> rcases g with ⟨b, rfl⟩ | ⟨b, rfl⟩
  · rfl
  · rw [a] at b; cases b
  · rw [a] at b; cases b
  · rfl
theorem MonOf.one {d k : Int} {e e' : Ending} (h : MonOf d k e) (g : MonOf d k e') : e = e' := by
  rcases h with ⟨a, rfl⟩ | ⟨a, y, m, c, hd, hm⟩ <;> rcases g with ⟨b, rfl⟩ | ⟨b, y', m', c', hd', hm'⟩
  · rfl
  · exact absurd a b
  · exact absurd b a
  · obtain ⟨rfl, rfl, rfl⟩ := hd.unique hd'
    exact hm.one hm'
theorem MonOf.form {d k : Int} {e : Ending} (h : MonOf d k e) : ∃ D E : Int, e = .returned (.tuple #[.int .i64 D, .int .i64 E]) := by
  rcases h with ⟨_, rfl⟩ | ⟨_, y, m, c, _, ⟨_, rfl⟩ | ⟨_, rfl⟩⟩ <;> exact ⟨_, _, rfl⟩
theorem months_all (d k : Int) (w : World) (ht : Tab w) :
    Calls Tryd.prog 10 #[.int .i64 d, .int .i64 k] w fun e w' => MonOf d k e ∧ w = w' := by
  by_cases h : d < 0 ∨ 100000 < d
  · exact (months_bad d k w h).mono fun e w' ⟨he, hw⟩ => ⟨.inl ⟨h, he⟩, hw⟩
  · exact (months_any d k w (by omega) (by omega) ht).mono fun e w' ⟨he, hw⟩ => ⟨.inr ⟨h, he⟩, hw⟩
theorem monthsFrom_all (d k : Int) (w : World) :
    Calls Tryd.prog 11 #[.int .i64 d, .int .i64 k] w fun e w' => MonOf d k e ∧ Below w.heap.size w w' := by
  by_cases h : d < 0 ∨ 100000 < d
  · exact (monthsFrom_bad d k w h).mono fun e w' ⟨he, hw⟩ => ⟨.inl ⟨h, he⟩, hw ▸ Below.refl _ _⟩
  · exact (monthsFrom_any d k w (by omega) (by omega)).mono fun e w' ⟨he, hw⟩ => ⟨.inr ⟨h, he⟩, hw⟩
end Go.Proofs.YtkidjhdfpdecoaaDoor
