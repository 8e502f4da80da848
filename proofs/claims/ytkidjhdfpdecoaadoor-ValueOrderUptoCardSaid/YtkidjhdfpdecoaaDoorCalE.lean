/- DayWalk: the law's own walk. -/
import Derived.Test.YtkidjhdfpdecoaaDoorCalD
import Derived.WalkKit
import Derived.Lib.Hide
namespace Go.Proofs.YtkidjhdfpdecoaaDoor
open Go.RowKit

set_option maxHeartbeats 400000 in
theorem awakeProp_any (w : World) (ht : Tab w) :
    Calls Tryd.prog 23 #[] w fun e w' => e = .returned (.bool true) ∧ w = w' := by
  have HT := Lib.hid ht
  clear ht
  go_enter Tryd.func23, Tryd.ntmps23
  go_wp2_with fail
  refine (dayOf_none 0 0 0 _ (by unfold DateOk; omega) HT.out).mono ?_
  rintro e w' ⟨he, rfl⟩
  rcases he with ⟨h, _⟩ | ⟨_, rfl⟩
  · unfold DateOk at h; omega
  go_wp2
  go_ret
  exact ⟨rfl, rfl⟩

set_option maxHeartbeats 400000 in
set_option maxRecDepth 100000 in
theorem dayWalk_out (d : Int) (w : World) (ht : Tab w) (h : d < 0 ∨ 100000 ≤ d) :
    Calls Tryd.prog 6 #[.int .i64 d] w fun e w' => e = .returned (.bool true) ∧ w = w' := by
  have HT := Lib.hid ht
  clear ht
  rcases (by omega : d < 0 ∨ (0 ≤ d ∧ 100000 ≤ d)) with h1 | ⟨h1, h2⟩
  all_goals
    clear h
    go_enter Tryd.func6, Tryd.ntmps6
    go_wp2_with (go_at_call 23; refine (awakeProp_any _ HT.out).mono ?_; rintro e w' ⟨rfl, rfl⟩)
    go_ret
    exact ⟨rfl, rfl⟩

/-- The weeks of two days, one after the other. -/
def WeekStep (d a b : Int) : Prop :=
  (d % 7 ≠ 6 ∧ b = a ∧ (Cal.thu (d + 1) - Cal.ys b) / 7 + 1 = (Cal.thu d - Cal.ys a) / 7 + 1) ∨
  (d % 7 = 6 ∧ b = a ∧ (Cal.thu (d + 1) - Cal.ys b) / 7 + 1 = (Cal.thu d - Cal.ys a) / 7 + 1 + 1) ∨
  (d % 7 = 6 ∧ b = a + 1 ∧ (Cal.thu (d + 1) - Cal.ys b) / 7 + 1 = 1 ∧ 52 ≤ (Cal.thu d - Cal.ys a) / 7 + 1)
theorem weeks (d : Int) (a b : Int) (ha : Cal.YearIs (Cal.thu d) a) (hb : Cal.YearIs (Cal.thu (d + 1)) b) : WeekStep d a b := by
  by_cases h : d % 7 = 6
  · rw [Cal.thu_next h] at hb
    unfold WeekStep
    rw [Cal.thu_next h]
    rcases Cal.week_step ha hb with ⟨rfl, e⟩ | ⟨e1, e2, e3⟩
    · exact .inr (.inl ⟨h, rfl, e⟩)
    · exact .inr (.inr ⟨h, e1, e2, e3⟩)
  · rw [Cal.thu_same h] at hb
    obtain rfl := hb.unique ha
    unfold WeekStep
    rw [Cal.thu_same h]
    exact .inl ⟨h, rfl, rfl⟩
theorem week_bd (e a : Int) (h : Cal.YearIs e a) : 2001 ≤ a ∧ 1 ≤ (e - Cal.ys a) / 7 + 1 ∧ (e - Cal.ys a) / 7 + 1 ≤ 60 ∧ a ≤ 2001 + e / 365 := by
  obtain ⟨h1, h2, h3⟩ := h
  have s := Cal.ys_succ a
  have l := Cal.lp_01 a
  have lo := Cal.ys_lo a h1
  omega

set_option maxHeartbeats 2000000 in
set_option maxRecDepth 100000 in
theorem dayWalk_in (d : Int) (w : World) (ht : Tab w) (h0 : 0 ≤ d) (h1 : d < 100000) :
    Calls Tryd.prog 6 #[.int .i64 d] w fun e w' => e = .returned (.bool true) ∧ w = w' := by
  have HT := Lib.hid ht
  clear ht
  go_enter Tryd.func6, Tryd.ntmps6
  go_wp2_with (first
    | (go_at_call 23; refine (awakeProp_any _ HT.out).mono ?_; rintro e w' ⟨rfl, rfl⟩)
    )
  refine (DateOf_yes _ _ h0 (by omega) HT.out).mono ?_
  rintro e w' ⟨y1, m1, d1, hd1, rfl, rfl⟩
  have H1 := Lib.hid hd1
  clear hd1
  go_wp2_with fail
  refine (DateOf_yes _ _ (by omega) (by omega) HT.out).mono ?_
  rintro e w' ⟨y2, m2, d2, hd2, rfl, rfl⟩
  have hn := H1.out.next
  have hb1 := Cal.ml_bd y1 m1 H1.out.2.1 H1.out.2.2.1
  have hy1 := H1.out.1.1
  have hy2 := Cal.ys_lo y1 hy1
  have hy3 := H1.out.1.2.1
  have hm1 := H1.out.2.1
  have hm2 := H1.out.2.2.1
  have hd1 := H1.out.2.2.2.1
  have hd3 := H1.out.2.2.2.2.1
  have H2 := Lib.hid hd2
  clear hd2
  have HW : Hid (∀ a b : Int, Cal.YearIs (Cal.thu d) a → Cal.YearIs (Cal.thu (d + 1)) b → WeekStep d a b) := weeks d
  have HB : Hid (∀ e a : Int, Cal.YearIs e a → 2001 ≤ a ∧ 1 ≤ (e - Cal.ys a) / 7 + 1 ∧ (e - Cal.ys a) / 7 + 1 ≤ 60 ∧ a ≤ 2001 + e / 365) := week_bd
  have ht0 : Cal.thu d ≤ 200000 := by unfold Cal.thu; omega
  have ht1 : Cal.thu (d + 1) ≤ 200000 := by unfold Cal.thu; omega
  rcases hn with ⟨g, hx⟩ | ⟨g, g2, hx⟩ | ⟨g, g2, hx⟩
  case' inl =>
    obtain ⟨rfl, rfl, rfl⟩ := H2.out.unique hx
  case' inr.inl =>
    obtain ⟨rfl, rfl, rfl⟩ := H2.out.unique hx
    have q1 : (m1 == m1 + 1) = false := by simp; omega
  case' inr.inr =>
    obtain ⟨rfl, rfl, rfl⟩ := H2.out.unique hx
    subst g2
    have q1 : (y1 == y1 + 1) = false := by simp; omega
  all_goals
    clear hx H2
    go_wp2_with fail
    refine (Week_yes _ _ h0 (by omega)).mono ?_
    rintro e w' ⟨a, ha, rfl, rfl⟩
    obtain ⟨a1, a2, a3, a4⟩ := HB.out _ _ ha
    obtain ⟨v, hv⟩ : ∃ v, v = (Cal.thu d - Cal.ys a) / 7 + 1 := ⟨_, rfl⟩
    rw [← hv] at a2 a3 ⊢
    have HV := Lib.hid hv
    have HA := Lib.hid ha
    clear hv ha
    go_wp2_with fail
    refine (Week_yes _ _ (by omega) (by omega)).mono ?_
    rintro e w' ⟨b, hb, rfl, rfl⟩
    obtain ⟨b1, b2, b3, b4⟩ := HB.out _ _ hb
    have hst := HW.out a b HA.out hb
    unfold WeekStep at hst
    rw [← HV.out] at hst
    obtain ⟨u, hu⟩ : ∃ u, u = (Cal.thu (d + 1) - Cal.ys b) / 7 + 1 := ⟨_, rfl⟩
    rw [← hu] at b2 b3 hst ⊢
    have HU := Lib.hid hu
    clear hu hb
    rcases hst with ⟨r1, rfl, rfl⟩ | ⟨r1, rfl, rfl⟩ | ⟨r1, rfl, rfl, r2⟩
    case' inl =>
      have q5 : (d % 7 != 6) = true := by simpa using r1
      have q6 : (d % 7 == 6) = false := by simpa using r1
    case' inr.inl =>
      have q5 : (d % 7 != 6) = false := by simpa using r1
      have q6 : (d % 7 == 6) = true := by simpa using r1
      have q7 : (v == v + 1) = false := by simp; omega
    case' inr.inr =>
      have q5 : (d % 7 != 6) = false := by simpa using r1
      have q6 : (d % 7 == 6) = true := by simpa using r1
      have q7 : (a == a + 1) = false := by simp; omega
    all_goals
      clear r1
      go_wp2_with fail
      refine (dayOf_back d _ _ _ _ HT.out H1.out (by omega)).mono ?_
      rintro e w' ⟨rfl, rfl⟩
      go_wp2
      go_ret
      exact ⟨rfl, rfl⟩
end Go.Proofs.YtkidjhdfpdecoaaDoor
