/- DayCounts: the law's own walk. -/
import Derived.Test.YtkidjhdfpdecoaaDoorDcE
import Derived.WalkKit
import Derived.Lib.Hide
import Derived.Below
import Derived.KernelRfl
import Derived.Lib.SmallJoins
namespace Go.Proofs.YtkidjhdfpdecoaaDoor
open Go.RowKit

theorem dayIs_back {d y m n : Int} {e : Ending} (h : Cal.DateIs d y m n) (h1 : d ≤ 100000) (he : DayIs y m n e) : e = .returned (.tuple #[.int .i64 d, .int .i64 0]) := by
  obtain ⟨y1, y2, m1, m2, n1, n2⟩ := date_year_bd h h1
  obtain ⟨_, _, _, _, n3, hd⟩ := h
  rcases he with ⟨_, _, rfl⟩ | ⟨hn, _⟩
  · rw [← hd]
  · exact absurd ⟨⟨y1, y2, m1, m2, n1, n3⟩, by omega⟩ hn

theorem dc_pow : Tryd.prog.globalNamed "internal/strconv.uint64pow10" = some 3 := by kernel_rfl
theorem Pow.below {w w' : World} (h : Pow w) (hb : Below w.heap.size w w') : Pow w' :=
  Joins.var_stays dc_pow h hb (Nat.le_refl _)

set_option maxHeartbeats 2000000 in
set_option maxRecDepth 100000 in
theorem dayCounts_bad (y m c d n : Int) (w : World) (ht : Tab w) (h : d < 0 ∨ 100000 < d) :
    Calls Tryd.prog 3 #[.int .i64 y, .int .i64 m, .int .i64 c, .int .i64 d, .int .i64 n] w fun e w' => e = .returned (.bool true) ∧ Below w.heap.size w w' := by
  have HT := Lib.hid ht
  have HX := Lib.hid h
  clear ht h
  go_enter Tryd.func3, Tryd.ntmps3
  go_wp2_with fail
  refine (dayOf_any _ _ _ _ HT.out).mono ?_
  rintro e w' ⟨h1, rfl⟩
  obtain ⟨D, E, rfl⟩ := h1.form
  have H1 := Lib.hid h1
  clear h1
  go_wp2_with fail
  refine (dayFrom_any _ _ _ _).mono ?_
  rintro e w1 ⟨h2, hb1⟩
  obtain rfl := h2.one H1.out
  have HB1 := Lib.hid hb1
  have HT1 := Lib.hid (HT.out.below hb1)
  clear h2 hb1
  go_wp2_with fail
  refine (months_all _ _ _ HT1.out).mono ?_
  rintro e w' ⟨h3, rfl⟩
  obtain ⟨M, F, rfl⟩ := h3.form
  have H3 := Lib.hid h3
  clear h3
  go_wp2_with fail
  refine (monthsFrom_all _ _ _).mono ?_
  rintro e w2 ⟨h4, hb2⟩
  obtain rfl := h4.one H3.out
  have HB2 : Hid (Below w.heap.size w w2) := Lib.hid (HB1.out.trans (hb2.mono HB1.out.size))
  clear h4 hb2
  go_wp2_with (first
    | (go_at_call 12; refine (DateOf_no _ _ HX.out).mono ?_; rintro e w' ⟨rfl, rfl⟩)
    | (go_at_call 13; refine (Week_no _ _ HX.out).mono ?_; rintro e w' ⟨rfl, rfl⟩)
    | (go_at_call 14; refine (DateText_no _ _ HX.out).mono ?_; rintro e w' ⟨rfl, rfl⟩)
    | (go_at_call 15; refine (refIsDay_no _ _ HX.out).mono ?_; rintro e w' ⟨rfl, rfl⟩))
  go_ret
  exact ⟨rfl, HB2.out⟩

set_option maxHeartbeats 2000000 in
set_option maxRecDepth 100000 in
theorem dayCounts_good (y m c d n : Int) (w : World) (ht : Tab w) (hp : Pow w) (d0 : 0 ≤ d) (d1 : d ≤ 100000) :
    Calls Tryd.prog 3 #[.int .i64 y, .int .i64 m, .int .i64 c, .int .i64 d, .int .i64 n] w fun e w' => e = .returned (.bool true) ∧ Below w.heap.size w w' := by
  have HT := Lib.hid ht
  have HP := Lib.hid hp
  clear ht hp
  go_enter Tryd.func3, Tryd.ntmps3
  go_wp2_with fail
  refine (dayOf_any _ _ _ _ HT.out).mono ?_
  rintro e w' ⟨h1, rfl⟩
  obtain ⟨D, E, rfl⟩ := h1.form
  have H1 := Lib.hid h1
  clear h1
  go_wp2_with fail
  refine (dayFrom_any _ _ _ _).mono ?_
  rintro e w1 ⟨h2, hb1⟩
  obtain rfl := h2.one H1.out
  have HB1 := Lib.hid hb1
  have HT1 := Lib.hid (HT.out.below hb1)
  clear h2 hb1
  go_wp2_with fail
  refine (months_all _ _ _ HT1.out).mono ?_
  rintro e w' ⟨h3, rfl⟩
  obtain ⟨M, F, rfl⟩ := h3.form
  have H3 := Lib.hid h3
  clear h3
  go_wp2_with fail
  refine (monthsFrom_all _ _ _).mono ?_
  rintro e w2 ⟨h4, hb2⟩
  obtain rfl := h4.one H3.out
  have HB2 : Hid (Below w.heap.size w w2) := Lib.hid (HB1.out.trans (hb2.mono HB1.out.size))
  have HT2 := Lib.hid (HT.out.below HB2.out)
  have HP2 := Lib.hid (HP.out.below HB2.out)
  clear h4 hb2
  go_wp2_with fail
  refine (DateOf_yes _ _ d0 d1 HT2.out).mono ?_
  rintro e w' ⟨a, b, k, hd, rfl, rfl⟩
  have HD := Lib.hid hd
  clear hd
  go_wp2_with fail
  refine (Week_yes _ _ d0 d1).mono ?_
  rintro e w' ⟨u, hu, rfl, rfl⟩
  obtain ⟨v, hv⟩ : ∃ v, v = (Cal.thu d - Cal.ys u) / 7 + 1 := ⟨_, rfl⟩
  rw [← hv]
  have HU := Lib.hid hu
  have HV := Lib.hid hv
  clear hu hv
  go_wp2_with fail
  refine (DateText_yes _ _ d0 d1 HT2.out HP2.out).mono ?_
  rintro e w3 ⟨⟨a', b', k', hd', rfl⟩, hb3⟩
  obtain ⟨rfl, rfl, rfl⟩ := hd'.unique HD.out
  have HB3 : Hid (Below w.heap.size w w3) := Lib.hid (HB2.out.trans (hb3.mono HB2.out.size))
  obtain ⟨S, hS⟩ : ∃ S, S = dstr a' b' k' := ⟨_, rfl⟩
  rw [← hS]
  have HS := Lib.hid hS
  clear hd' hb3 hS
  go_wp2_with (go_at_call 15; refine (refIsDay_yes _ _ d0 d1).mono ?_; rintro e w' ⟨rfl, rfl⟩)
  refine (dayFrom_any _ _ _ _).mono ?_
  rintro e w4 ⟨h5, hb4⟩
  obtain rfl := dayIs_back HD.out d1 h5
  have HB4 : Hid (Below w.heap.size w w4) := Lib.hid (HB3.out.trans (hb4.mono HB3.out.size))
  clear h5 hb4
  go_wp2_with fail
  refine (weekOf_any _ _ d0 (by omega)).mono ?_
  rintro e w' ⟨⟨u', hu', rfl⟩, rfl⟩
  obtain rfl := hu'.unique HU.out
  rw [← HV.out]
  clear hu'
  go_wp2_with fail
  refine (dateString_any _ _ d0 d1).mono ?_
  rintro e w5 ⟨⟨a'', b'', k'', hd'', rfl⟩, hb5⟩
  obtain ⟨rfl, rfl, rfl⟩ := hd''.unique HD.out
  rw [← HS.out]
  have HB5 : Hid (Below w.heap.size w w5) := Lib.hid (HB4.out.trans (hb5.mono HB4.out.size))
  clear hd'' hb5
  go_wp2
  go_ret
  exact ⟨rfl, HB5.out⟩
end Go.Proofs.YtkidjhdfpdecoaaDoor
