/- DayGrids: the reference's GridOf. -/
import Derived.Test.YtfpiannnggkdiaaDoorGrH
namespace Go.Proofs.YtfpiannnggkdiaaDoor
open Go.RowKit Go.Maps Go.Shelf

theorem ref_next {y m : Int} (m1 : 1 ≤ m) (m2 : m ≤ 12) : Cal.refDay y (m + 1) 1 = Cal.ys y + Cal.cum y m + Cal.ml y m := by
  have hc := Cal.cum_succ y m
  by_cases h : m = 12
  · subst h
    have h13 := Cal.cum_13 y
    rw [show (12 : Int) + 1 = 13 by rfl] at hc ⊢
    unfold Cal.refDay
    rw [show ((13 : Int) - 1) / 12 = 1 by decide, show (13 : Int) - 12 * 1 = 1 by decide, Cal.cum_one, Cal.ys_succ]
    omega
  · rw [Cal.refDay_in y (m + 1) 1 (by omega) (by omega)]
    omega
set_option maxHeartbeats 1000000 in
theorem monthSpan_any (y m : Int) (w : World) (y1 : 2001 ≤ y) (y2 : y ≤ 2300) (m1 : 1 ≤ m) (m2 : m ≤ 12) :
    Calls Tryd.prog 18 #[.int .i64 y, .int .i64 m] w fun e w' => e = .returned (.tuple #[.int .i64 (firstD y m), .int .i64 (lastD y m)]) ∧ Below w.heap.size w w' := by
  have a := Cal.ys_bd y y1 (by omega)
  have b := Cal.cum_bd y m m1 (by omega)
  have c := Cal.ml_bd y m m1 m2
  have HA := Lib.hid (fun W => refDateOf_any y m 1 W (by omega) (by omega) (by omega) (by omega) (by omega) (by omega) (by omega))
  have HB := Lib.hid (fun W => refDateOf_any y (m + 1) 1 W (by omega) (by omega) (by omega) (by omega) (by omega) (by omega) (by omega))
  rw [Cal.refDay_in y m 1 m1 m2, show Cal.ys y + Cal.cum y m + 1 - 1 = firstD y m by unfold firstD; omega] at HA
  rw [ref_next m1 m2, show Cal.ys y + Cal.cum y m + Cal.ml y m = lastD y m + 1 by unfold lastD; omega] at HB
  have hf : 0 ≤ firstD y m ∧ firstD y m ≤ 1000000 := by unfold firstD; omega
  have hl : 0 ≤ lastD y m ∧ lastD y m ≤ 1000000 := by unfold lastD; omega
  generalize firstD y m = F at *
  generalize lastD y m = L at *
  clear a b c
  go_enter Tryd.func18, Tryd.ntmps18
  go_wp2_with fail
  refine (HA.out w).mono ?_
  rintro e1 w1 ⟨rfl, hb1⟩
  have HB1 := Lib.hid hb1
  clear hb1
  go_wp2_with fail
  refine (HB.out w1).mono ?_
  rintro e2 w2 ⟨rfl, hb2⟩
  have HB2 := Lib.hid (HB1.out.trans (hb2.mono HB1.out.size))
  clear hb2
  go_wp2_with fail
  go_ret2
  exact ⟨rfl, HB2.out⟩
set_option maxHeartbeats 1000000 in
theorem spanOf_yes (a b : Int) (w : World) (ha : DayB a) (hb : DayB b) :
    Calls Tryd.prog 19 #[.int .i64 a, .int .i64 b] w fun e w' => e = .returned (.tuple #[.int .i64 a, .int .i64 b, .int .i64 0]) ∧ w = w' := by
  have HA := Lib.hid (refDay_yes a w ha.1 ha.2)
  have HB := Lib.hid (refDay_yes b w hb.1 hb.2)
  clear ha hb
  go_enter Tryd.func19, Tryd.ntmps19
  go_wp2_with fail
  refine HA.out.mono ?_
  rintro e1 w1 ⟨rfl, rfl⟩
  go_wp2_with fail
  refine HB.out.mono ?_
  rintro e1 w1 ⟨rfl, rfl⟩
  go_wp2_with fail
  go_ret3
  exact ⟨rfl, rfl⟩
set_option maxHeartbeats 1000000 in
theorem spanOf_no (a b : Int) (w : World) (h : ¬ (DayB a ∧ DayB b)) :
    Calls Tryd.prog 19 #[.int .i64 a, .int .i64 b] w fun e w' => e = .returned (.tuple #[.int .i64 0, .int .i64 0, .int .i64 2]) ∧ w = w' := by
  by_cases ha : DayB a
  case' pos =>
    have hb : b < 0 ∨ 100000 < b := by unfold DayB at *; omega
    have HA := Lib.hid (refDay_yes a w ha.1 ha.2)
    have HB := Lib.hid (refDay_no b w hb)
  case' neg =>
    have hn : a < 0 ∨ 100000 < a := by unfold DayB at *; omega
    have HA := Lib.hid (refDay_no a w hn)
    have hb : ∃ t, Calls Tryd.prog 50 #[.int .i64 b] w fun e w' => e = .returned (.tuple #[.int .i64 b, .bool t]) ∧ w = w' := by
      by_cases h : DayB b
      · exact ⟨true, refDay_yes b w h.1 h.2⟩
      · exact ⟨false, refDay_no b w (by unfold DayB at h; omega)⟩
    obtain ⟨t, hb⟩ := hb
    have HB := Lib.hid hb
  all_goals
    clear hb h ha
    go_enter Tryd.func19, Tryd.ntmps19
    go_wp2_with fail
    refine HA.out.mono ?_
    rintro e1 w1 ⟨rfl, rfl⟩
    go_wp2_with fail
    refine HB.out.mono ?_
    rintro e1 w1 ⟨rfl, rfl⟩
    go_wp2_with fail
    go_ret3
    exact ⟨rfl, rfl⟩

set_option maxRecDepth 100000 in
set_option maxHeartbeats 8000000 in
theorem gridOf_loops (y m : Int) (w : World) (hg : GridOk y m) : Calls Tryd.prog 6 #[.int .i64 y, .int .i64 m] w (GivesGrid w y m) := by
  obtain ⟨f0, f1, f2⟩ := hg.bd
  have f3 := hg.last
  have y1 := hg.y1
  have y2 : y ≤ 2300 := by have := hg.y2; omega
  have m1 := hg.m1
  have m2 := hg.m2
  have HMS := Lib.hid (monthSpan_any y m w y1 y2 m1 m2)
  have HSO := Lib.hid (fun W => spanOf_yes (firstD y m) (lastD y m) W ⟨f0, by omega⟩ ⟨by omega, f3⟩)
  have HG : Hid (∀ v w', Wks w (gridL (firstD y m) (lastD y m) (wkN (firstD y m) (lastD y m))) v w' → GivesGrid w y m (.returned (.tuple #[v, .int .i64 0])) w') := Lib.hid (fun v w' h => .inl ⟨hg, v, rfl, h⟩)
  obtain ⟨i0, hi, hz0, hz1, hz2⟩ := info_parts infoInts
  generalize firstD y m = F at *
  generalize lastD y m = L at *
  have hfew := wkN_few (F := F) (L := L) f0 (by omega)
  have HMORE := Lib.hid (fun k => wk_more (F := F) (L := L) (k := k) f0 f1)
  obtain ⟨K, hK⟩ : ∃ K, K = wkN F L := ⟨_, rfl⟩
  rw [← hK] at HMORE HG hfew
  have hms : ∀ W : World, (Instr.makeSlice 22 (.int .i64 7) (.int .i64 7)).run Tryd.prog W = .ok (.slice (some ⟨W.heap.size, 0, none⟩) 7 7) (W.alloc (.cells #[.int .i64 0, .int .i64 0, .int .i64 0, .int .i64 0, .int .i64 0, .int .i64 0, .int .i64 0] 3)) := fun _ => by kernel_rfl
  clear hg hK
  go_enter Tryd.func6, Tryd.ntmps6
  go_wp2_with fail
  refine HMS.out.mono ?_
  rintro e1 w1 ⟨rfl, hb1⟩
  have HB0 := Lib.hid hb1
  clear hb1
  go_wp2_with fail
  refine (HSO.out _).mono ?_
  rintro e2 w2 ⟨rfl, rfl⟩
  go_wp2_with fail
  clear HMS HSO
  go_loopw [11, 12] (fun vv sv wr => ∃ k : Nat, sv = .int .i64 (wkS F k) ∧ k ≤ K ∧ Hid (Wks w (gridL F L k) vv wr)) (fun _ sv _ => (L + 8 - intOf sv).toNat)
  case atStart => exact ⟨0, congrArg _ (by unfold wkS; omega), Nat.zero_le _, Lib.hid (Wks.nil HB0.out)⟩
  case round =>
    obtain ⟨k, rfl, hk, HR⟩ := hrel
    rename World => w0
    obtain ⟨s0, s1⟩ := wkS_bd (F := F) (k := k) f0 (by omega) (by omega)
    have hmore := HMORE.out k
    by_cases hlt : k < K
    · have p1 : wkS F k ≤ L := hmore.2 hlt
      have HNX := Lib.hid (wkS_next F k)
      have HSU := Lib.hid (gridL_succ F L k)
      have HAT := Lib.hid (fun j (h : j < 7) => wkRow_at F L (wkS F k) h)
      obtain ⟨s, hs⟩ : ∃ s, s = wkS F k := ⟨_, rfl⟩
      rw [← hs] at HNX HSU HAT s0 s1 p1 ⊢
      have HSS := Lib.hid hs
      clear hmore hs
      go_wp2_with fail
      go_loopw [57] (fun iv wx => ∃ j : Nat, iv = .int .i64 j ∧ j ≤ 7 ∧ Hid (WkFill w0 (wkRow F L s) j wx)) (fun iv _ => 7 - (intOf iv).toNat)
      case atStart => exact ⟨0, rfl, Nat.zero_le _, Lib.hid WkFill.start⟩
      case round =>
        obtain ⟨j, rfl, hj7, HF⟩ := hrel
        by_cases hj : j < 7
        · have p2 : (j : Int) < 7 := by omega
          have c0 := HF.out.cell j hj
          have c1 := HF.out.frz j
          rw [if_neg (by omega)] at c0
          have hat := HAT.out j hj
          unfold wkCell at hat
          by_cases ha : s + j < F
          · have HX : Hid (WkFill w0 (wkRow F L s) (j + 1) _) := Lib.hid (HF.out.put2 hj (u := .int .i64 (s + j)) (x := -1) (by rw [hat, if_pos (.inl ha)]))
            clear hat
            go_wp2_with fail
            go_roundw
            case rel => exact ⟨j + 1, by go_num, hj, HX⟩
            case measure => simp [intOf]; omega
          · by_cases hb : L < s + j
            · have HX : Hid (WkFill w0 (wkRow F L s) (j + 1) _) := Lib.hid (HF.out.put2 hj (u := .int .i64 (s + j)) (x := -1) (by rw [hat, if_pos (.inr hb)]))
              clear hat
              go_wp2_with fail
              go_roundw
              case rel => exact ⟨j + 1, by go_num, hj, HX⟩
              case measure => simp [intOf]; omega
            · have HX : Hid (WkFill w0 (wkRow F L s) (j + 1) _) := Lib.hid (HF.out.put hj (x := s + j) (by rw [hat, if_neg (fun h => h.elim ha hb)]))
              clear hat
              go_wp2_with fail
              go_roundw
              case rel => exact ⟨j + 1, by go_num, hj, HX⟩
              case measure => simp [intOf]; omega
        · have p2 : ¬ (j : Int) < 7 := by omega
          obtain rfl : j = 7 := by omega
          have hle := HF.out.bel.size
          have HW := Lib.hid HF.out.full
          have HKS := Lib.hid (HR.out.later HF.out.bel)
          obtain ⟨gs, h1, h2, h3⟩ := HR.out.rep
          obtain ⟨A0, c0, rfl⟩ : ∃ A c, u11 = .slice A (gridL F L k).length c := by
            rcases h1.2 with ⟨h0, h1⟩ | ⟨g, cap, cur, e1, _⟩
            · exact ⟨none, 0, by rw [h0, h1]⟩
            · exact ⟨_, cap, e1⟩
          have HNB : Hid ((Value.slice A0 (gridL F L k).length c0).ownBlock ≠ some w0.heap.size) := Lib.hid (fun e => by have := (h1.lt _ e).2; omega)
          have HBW : Hid (w.heap.size ≤ w0.heap.size) := Lib.hid HR.out.bel.size
          have H1 := Lib.hid (own_keptG h1 (fun g hg => HF.out.bel.block g (h1.lt g hg).2))
          have H2 := Lib.hid h2
          have H3 : Hid (∀ j (h : j < gs.length) (h' : j < (gridL F L k).length), WkAt wr (gridL F L k)[j] gs[j] ∧ w.heap.size ≤ gs[j] ∧ (Value.slice A0 (gridL F L k).length c0).ownBlock ≠ some gs[j]) := Lib.hid (fun j hj hj' => by
            obtain ⟨g1, g2, g3⟩ := h3 j hj hj'
            exact ⟨g1.keep (HF.out.bel.block _ g1.lt) hle, g2, g3⟩)
          have hlk : (gridL F L k).length ≤ 6 := by rw [gridL_len]; omega
          obtain ⟨ml, hml⟩ : ∃ ml, ml = (gridL F L k).length := ⟨_, rfl⟩
          have HML := Lib.hid hml
          have hsz : w0.heap.size < wr.heap.size := by have := HF.out.size; omega
          have hwle : w.heap.size ≤ w0.heap.size := HBW.out
          rw [← hml] at H1 hlk HNB ⊢
          clear h1 h2 h3 hml HR HF
          go_wp2_with (at_builtin; refine wpList_append_lies _ rfl _ _ 23 rfl w.heap.size 22 i0 _ 1 24 Tryd.underlying23 hi hz0 hz1 hz2 rfl (by omega) (.slice A0 ml c0) ml (gs.map WkV) rfl (H1.out.alloc _) ⟨wr.heap.size, 0, none⟩ 1 1 [.slice (some ⟨w0.heap.size, 0, none⟩) 7 7] rfl rfl (by intro q' u hq'; have := one_newsG wr (.slice (some ⟨w0.heap.size, 0, none⟩) 7 7) 22 q' u hq'; simpa using this) (by simp [Value.oneCell']) (by omega) (by unfold maxLen; omega) (by omega) (by first | omega | (simp; omega)) _ rfl ?_)
          intro gg cap w4 ho4 hg4 hat4 hlt4
          have HX : Hid (Wks w (gridL F L (k + 1)) (.slice (some ⟨gg, 0, none⟩) (ml + 1) cap) w4) := Lib.hid (by
            have hf := HML.out
            subst hf
            rw [HSU.out]
            exact HKS.out.push HW.out HBW.out HNB.out H1.out H2.out H3.out ho4 hg4 (by simpa using hat4))
          clear ho4 hg4 hat4
          go_wp2_with fail
          go_roundw
          case rel => exact ⟨k + 1, congrArg _ (by unfold wkS at *; have := HSS.out; omega), hlt, HX⟩
          case measure => simp [intOf]; omega
    · have p1 : ¬ wkS F k ≤ L := fun h => hlt (hmore.1 h)
      obtain rfl : K = k := by omega
      have HX := Lib.hid (HG.out _ _ HR.out)
      clear hmore HR
      go_wp2_with fail
      go_ret2
      exact HX.out

theorem gridOk_of {y m : Int} (y1 : 2001 ≤ y) (m1 : 1 ≤ m) (m2 : m ≤ 12) (hl : lastD y m ≤ 100000) : GridOk y m := by
  refine ⟨y1, ?_, m1, m2, hl⟩
  have b := Cal.cum_bd y m m1 (by omega)
  have c := Cal.ml_bd y m m1 m2
  by_cases h : y ≤ 2274
  · exact h
  · have a := Cal.ys_mono 2275 y (by omega)
    rw [ys_2275] at a
    unfold lastD at hl
    omega
set_option maxRecDepth 100000 in
set_option maxHeartbeats 8000000 in
theorem gridOf_any (y m : Int) (w : World) : Calls Tryd.prog 6 #[.int .i64 y, .int .i64 m] w (GivesGrid w y m) := by
  by_cases hg : GridOk y m
  · exact gridOf_loops y m w hg
  · by_cases hin : 2001 ≤ y ∧ y ≤ 2300 ∧ 1 ≤ m ∧ m ≤ 12
    · obtain ⟨y1, y2, m1, m2⟩ := hin
      have HMS := Lib.hid (monthSpan_any y m w y1 y2 m1 m2)
      have HSO := Lib.hid (fun W => spanOf_no (firstD y m) (lastD y m) W (fun h => hg (gridOk_of y1 m1 m2 h.2.2)))
      have HB : Hid (∀ w', Below w.heap.size w w' → GivesGrid w y m (.returned (.tuple #[.slice none 0 0, .int .i64 2])) w') := Lib.hid (fun w' hb => .inr ⟨hg, rfl, hb⟩)
      clear hg
      generalize firstD y m = F at *
      generalize lastD y m = L at *
      go_enter Tryd.func6, Tryd.ntmps6
      go_wp2_with fail
      refine HMS.out.mono ?_
      rintro e1 w1 ⟨rfl, hb1⟩
      have HB0 := Lib.hid hb1
      clear hb1
      go_wp2_with fail
      refine (HSO.out _).mono ?_
      rintro e2 w2 ⟨rfl, rfl⟩
      go_wp2_with fail
      go_ret2
      exact HB.out _ HB0.out
    · have HB : Hid (GivesGrid w y m (.returned (.tuple #[.slice none 0 0, .int .i64 2])) w) := Lib.hid (.inr ⟨hg, rfl, Below.refl _ _⟩)
      clear hg
      rcases (by omega : m < 1 ∨ (1 ≤ m ∧ 12 < m) ∨ (1 ≤ m ∧ m ≤ 12 ∧ y < 2001) ∨ (1 ≤ m ∧ m ≤ 12 ∧ 2001 ≤ y ∧ 2300 < y)) with h | ⟨h0, h⟩ | ⟨h0, h1, h⟩ | ⟨h0, h1, h2, h⟩
      all_goals
        clear hin
        go_enter Tryd.func6, Tryd.ntmps6
        go_wp2_with fail
        go_ret2
        exact HB.out
end Go.Proofs.YtfpiannnggkdiaaDoor
