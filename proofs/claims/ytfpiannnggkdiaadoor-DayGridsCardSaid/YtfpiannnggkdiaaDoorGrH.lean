/- DayGrids: Grid of the program. -/
import Derived.Test.YtfpiannnggkdiaaDoorGrG
namespace Go.Proofs.YtfpiannnggkdiaaDoor
open Go.RowKit Go.Maps Go.Shelf

theorem WkFill.put2 {W wx : World} {r : List Int} {j : Nat} (h : WkFill W r j wx) (hj : j < 7) {u : Value} {x : Int} (hx : x = r.getD j 0) : WkFill W r (j + 1) ((wx.setCell ⟨W.heap.size, j, none⟩ u).setCell ⟨W.heap.size, j, none⟩ (.int .i64 x)) := by
  refine ⟨(h.bel.setCell (Nat.le_refl _) _).setCell (Nat.le_refl _) _, by simp [h.size], fun i hi => ?_, fun i => by rw [World.frozen?_setCell, World.frozen?_setCell]; exact h.frz i⟩
  by_cases e : i = j
  · subst e
    rw [World.cell?_setCell_same _ _ _ (World.cell?_setCell_same _ _ _ (h.cell i hi)), if_pos (by omega), hx]
  · have hne : (⟨W.heap.size, j, none⟩ : Addr) ≠ ⟨W.heap.size, i, none⟩ := fun he => e (by injection he with _ h2 _; exact h2.symm)
    rw [World.cell?_setCell_other _ _ _ _ hne, World.cell?_setCell_other _ _ _ _ hne, h.cell i hi]
    by_cases hi2 : i < j
    · rw [if_pos hi2, if_pos (by omega)]
    · rw [if_neg hi2, if_neg (by omega)]
/-- What Grid gives. -/
def GivesGrid (w : World) (y m : Int) (e : Ending) (w' : World) : Prop :=
  (GridOk y m ∧ ∃ v, e = .returned (.tuple #[v, .int .i64 0]) ∧ Wks w (gridL (firstD y m) (lastD y m) (wkN (firstD y m) (lastD y m))) v w') ∨
  (¬ GridOk y m ∧ e = .returned (.tuple #[.slice none 0 0, .int .i64 2]) ∧ Below w.heap.size w w')
theorem infoInts : (Tryd.prog.info? 22).map (fun i => (i.zero, i.size, i.bytes)) = some (some (.slice none 0 0), 1, 24) := by kernel_rfl
theorem one_newsG (w : World) (a : Value) (T : TypeId) : ∀ q u, [a][q]? = some u → (w.alloc (.cells #[a] T)).cell? ((⟨w.heap.size, 0, none⟩ : Addr).add q) = some u := by
  intro q u hq
  rcases q with _ | q
  · simp at hq
    subst hq
    simp [Addr.add]
  · simp at hq
theorem wkS_next (F : Int) (k : Nat) : wkS F k - wkS F k % 7 + 7 * 1 = wkS F (k + 1) := by unfold wkS; omega
theorem wkS_zero (F : Int) : F - F % 7 + 7 * 0 = wkS F 0 := by unfold wkS; omega
theorem wkS_bd {F : Int} {k : Nat} (h0 : 0 ≤ F) (h1 : F ≤ 100000) (hk : k ≤ 10) : 0 ≤ wkS F k ∧ wkS F k ≤ 200000 := by unfold wkS; omega
theorem gridOk_not1 {y m : Int} (h : ¬ (DateOk y m 1 ∧ Cal.ys y + Cal.cum y m + 1 - 1 ≤ 100000)) : ¬ GridOk y m := fun g => h (by
  have a := g.bd
  have b := Cal.ml_bd y m g.m1 g.m2
  have := g.last
  unfold firstD at a
  exact ⟨⟨g.y1, g.y2, g.m1, g.m2, by omega, by omega⟩, by omega⟩)

set_option maxRecDepth 100000 in
set_option maxHeartbeats 8000000 in
theorem grid_loops (y m : Int) (w : World) (ht : Tab w) (hd : TabD w) (hg : GridOk y m) : Calls Tryd.prog 5 #[.int .i64 y, .int .i64 m] w (GivesGrid w y m) := by
  obtain ⟨f0, f1, f2⟩ := hg.bd
  have f3 := hg.last
  have HML := Lib.hid (dayMonthLength_any y m w hg.y1 hg.y2 hg.m1 hg.m2 ht hd)
  have HDO : Hid (Calls Tryd.prog 14 #[.int .i64 y, .int .i64 m, .int .i64 1] w fun e w' => e = .returned (.tuple #[.int .i64 (firstD y m), .int .i64 0]) ∧ w = w') := Lib.hid ((dayOf_any y m 1 w ht).mono (by
    rintro e w' ⟨h, rfl⟩
    refine ⟨?_, rfl⟩
    rcases h with ⟨_, _, rfl⟩ | ⟨hn, _⟩
    · rw [show Cal.ys y + Cal.cum y m + 1 - 1 = firstD y m by unfold firstD; omega]
    · have b := Cal.ml_bd y m hg.m1 hg.m2
      exact absurd ⟨⟨hg.y1, hg.y2, hg.m1, hg.m2, by omega, by omega⟩, by unfold firstD at f0 f1 f2; omega⟩ hn))
  have HG : Hid (∀ v w', Wks w (gridL (firstD y m) (lastD y m) (wkN (firstD y m) (lastD y m))) v w' → GivesGrid w y m (.returned (.tuple #[v, .int .i64 0])) w') := Lib.hid (fun v w' h => .inl ⟨hg, v, rfl, h⟩)
  have hL : firstD y m + Cal.ml y m - 1 = lastD y m := by unfold firstD lastD; omega
  have hml := Cal.ml_bd y m hg.m1 hg.m2
  obtain ⟨i0, hi, hz0, hz1, hz2⟩ := info_parts infoInts
  generalize Cal.ml y m = ML at HML hL hml
  generalize firstD y m = F at *
  generalize lastD y m = L at *
  have hfew := wkN_few (F := F) (L := L) f0 (by omega)
  have HMORE := Lib.hid (fun k => wk_more (F := F) (L := L) (k := k) f0 f1)
  obtain ⟨K, hK⟩ : ∃ K, K = wkN F L := ⟨_, rfl⟩
  rw [← hK] at HMORE HG hfew
  have hms : ∀ W : World, (Instr.makeSlice 22 (.int .i64 7) (.int .i64 7)).run Tryd.prog W = .ok (.slice (some ⟨W.heap.size, 0, none⟩) 7 7) (W.alloc (.cells #[.int .i64 0, .int .i64 0, .int .i64 0, .int .i64 0, .int .i64 0, .int .i64 0, .int .i64 0] 3)) := fun _ => by kernel_rfl
  clear ht hd hg hK
  go_enter Tryd.func5, Tryd.ntmps5
  go_wp2_with (first
    | (go_at_call 14; refine HDO.out.mono ?_; rintro e w' ⟨rfl, rfl⟩)
    | (go_at_call 15; refine HML.out.mono ?_; rintro e w' ⟨rfl, rfl⟩)
    | (go_at_call 16; refine (dayIsDay_yes _ _ (by omega) (by omega)).mono ?_; rintro e w' ⟨rfl, rfl⟩)
    | (go_at_call 17; refine (weekStart_any _ _ _ (by omega) (by omega) (by omega) (by omega)).mono ?_; rintro e w' ⟨rfl, rfl⟩))

  clear hL hml HML HDO
  go_loopw [9, 10] (fun vv sv wr => ∃ k : Nat, sv = .int .i64 (wkS F k) ∧ k ≤ K ∧ Hid (Wks w (gridL F L k) vv wr)) (fun _ sv _ => (L + 8 - intOf sv).toNat)
  case atStart => exact ⟨0, congrArg _ (by unfold wkS; omega), Nat.zero_le _, Lib.hid (Wks.nil (Below.refl _ _))⟩
  case round =>
    obtain ⟨k, rfl, hk, HR⟩ := hrel
    rename World => w0
    obtain ⟨s0, s1⟩ := wkS_bd (F := F) (k := k) f0 (by omega) (by omega)
    have hmore := HMORE.out k
    by_cases hlt : k < K
    · have p1 : wkS F k ≤ L := hmore.2 hlt
      have HNX := Lib.hid (wkS_next F k)
      have HSU := Lib.hid (gridL_succ F L k)
      have HAT := Lib.hid (fun j (h : j < 7) => wkRow_at F L (wkS F k) h)
      obtain ⟨s, hs⟩ : ∃ s, s = wkS F k := ⟨_, rfl⟩
      rw [← hs] at HNX HSU HAT s0 s1 p1 ⊢
      have HSS := Lib.hid hs
      clear hmore hs
      go_wp2_with fail
      go_loopw [40] (fun iv wx => ∃ j : Nat, iv = .int .i64 j ∧ j ≤ 7 ∧ Hid (WkFill w0 (wkRow F L s) j wx)) (fun iv _ => 7 - (intOf iv).toNat)
      case atStart => exact ⟨0, rfl, Nat.zero_le _, Lib.hid WkFill.start⟩
      case round =>
        obtain ⟨j, rfl, hj7, HF⟩ := hrel
        by_cases hj : j < 7
        · have p2 : (j : Int) < 7 := by omega
          have c0 := HF.out.cell j hj
          have c1 := HF.out.frz j
          rw [if_neg (by omega)] at c0
          have hat := HAT.out j hj
          unfold wkCell at hat
          by_cases ha : s + j < F
          · have HX : Hid (WkFill w0 (wkRow F L s) (j + 1) _) := Lib.hid (HF.out.put2 hj (u := .int .i64 (s + j)) (x := -1) (by rw [hat, if_pos (.inl ha)]))
            clear hat
            go_wp2_with fail
            go_roundw
            case rel => exact ⟨j + 1, by go_num, hj, HX⟩
            case measure => simp [intOf]; omega
          · by_cases hb : L < s + j
            · have HX : Hid (WkFill w0 (wkRow F L s) (j + 1) _) := Lib.hid (HF.out.put2 hj (u := .int .i64 (s + j)) (x := -1) (by rw [hat, if_pos (.inr hb)]))
              clear hat
              go_wp2_with fail
              go_roundw
              case rel => exact ⟨j + 1, by go_num, hj, HX⟩
              case measure => simp [intOf]; omega
            · have HX : Hid (WkFill w0 (wkRow F L s) (j + 1) _) := Lib.hid (HF.out.put hj (x := s + j) (by rw [hat, if_neg (fun h => h.elim ha hb)]))
              clear hat
              go_wp2_with fail
              go_roundw
              case rel => exact ⟨j + 1, by go_num, hj, HX⟩
              case measure => simp [intOf]; omega
        · have p2 : ¬ (j : Int) < 7 := by omega
          obtain rfl : j = 7 := by omega
          have hle := HF.out.bel.size
          have HW := Lib.hid HF.out.full
          have HKS := Lib.hid (HR.out.later HF.out.bel)
          obtain ⟨gs, h1, h2, h3⟩ := HR.out.rep
          obtain ⟨A0, c0, rfl⟩ : ∃ A c, u9 = .slice A (gridL F L k).length c := by
            rcases h1.2 with ⟨h0, h1⟩ | ⟨g, cap, cur, e1, _⟩
            · exact ⟨none, 0, by rw [h0, h1]⟩
            · exact ⟨_, cap, e1⟩
          have HNB : Hid ((Value.slice A0 (gridL F L k).length c0).ownBlock ≠ some w0.heap.size) := Lib.hid (fun e => by have := (h1.lt _ e).2; omega)
          have HBW : Hid (w.heap.size ≤ w0.heap.size) := Lib.hid HR.out.bel.size
          have H1 := Lib.hid (own_keptG h1 (fun g hg => HF.out.bel.block g (h1.lt g hg).2))
          have H2 := Lib.hid h2
          have H3 : Hid (∀ j (h : j < gs.length) (h' : j < (gridL F L k).length), WkAt wr (gridL F L k)[j] gs[j] ∧ w.heap.size ≤ gs[j] ∧ (Value.slice A0 (gridL F L k).length c0).ownBlock ≠ some gs[j]) := Lib.hid (fun j hj hj' => by
            obtain ⟨g1, g2, g3⟩ := h3 j hj hj'
            exact ⟨g1.keep (HF.out.bel.block _ g1.lt) hle, g2, g3⟩)
          have hlk : (gridL F L k).length ≤ 6 := by rw [gridL_len]; omega
          obtain ⟨ml, hml⟩ : ∃ ml, ml = (gridL F L k).length := ⟨_, rfl⟩
          have HML := Lib.hid hml
          have hsz : w0.heap.size < wr.heap.size := by have := HF.out.size; omega
          have hwle : w.heap.size ≤ w0.heap.size := HBW.out
          rw [← hml] at H1 hlk HNB ⊢
          clear h1 h2 h3 hml HR HF
          go_wp2_with (at_builtin; refine wpList_append_lies _ rfl _ _ 23 rfl w.heap.size 22 i0 _ 1 24 Tryd.underlying23 hi hz0 hz1 hz2 rfl (by omega) (.slice A0 ml c0) ml (gs.map WkV) rfl (H1.out.alloc _) ⟨wr.heap.size, 0, none⟩ 1 1 [.slice (some ⟨w0.heap.size, 0, none⟩) 7 7] rfl rfl (by intro q' u hq'; have := one_newsG wr (.slice (some ⟨w0.heap.size, 0, none⟩) 7 7) 22 q' u hq'; simpa using this) (by simp [Value.oneCell']) (by omega) (by unfold maxLen; omega) (by omega) (by first | omega | (simp; omega)) _ rfl ?_)
          intro gg cap w4 ho4 hg4 hat4 hlt4
          have HX : Hid (Wks w (gridL F L (k + 1)) (.slice (some ⟨gg, 0, none⟩) (ml + 1) cap) w4) := Lib.hid (by
            have hf := HML.out
            subst hf
            rw [HSU.out]
            exact HKS.out.push HW.out HBW.out HNB.out H1.out H2.out H3.out ho4 hg4 (by simpa using hat4))
          clear ho4 hg4 hat4
          go_wp2_with (first
            | (go_at_call 17; refine (weekStart_any _ _ _ (by omega) (by omega) (by omega) (by omega)).mono ?_; rintro e w' ⟨rfl, rfl⟩))
          go_roundw
          case rel => exact ⟨k + 1, congrArg _ (by have := HNX.out; omega), hlt, HX⟩
          case measure => simp [intOf]; omega
    · have p1 : ¬ wkS F k ≤ L := fun h => hlt (hmore.1 h)
      obtain rfl : K = k := by omega
      have HX := Lib.hid (HG.out _ _ HR.out)
      clear hmore HR
      go_wp2_with fail
      go_ret2
      exact HX.out

set_option maxRecDepth 100000 in
set_option maxHeartbeats 8000000 in
theorem grid_any (y m : Int) (w : World) (ht : Tab w) (hd : TabD w) : Calls Tryd.prog 5 #[.int .i64 y, .int .i64 m] w (GivesGrid w y m) := by
  by_cases hg : GridOk y m
  · exact grid_loops y m w ht hd hg
  · have HB : Hid (GivesGrid w y m (.returned (.tuple #[.slice none 0 0, .int .i64 2])) w) := Lib.hid (.inr ⟨hg, rfl, Below.refl _ _⟩)
    by_cases h1 : DateOk y m 1 ∧ Cal.ys y + Cal.cum y m + 1 - 1 ≤ 100000
    · obtain ⟨⟨y1, y2, m1, m2, _, _⟩, h2⟩ := h1
      have HML := Lib.hid (dayMonthLength_any y m w y1 y2 m1 m2 ht hd)
      have HDO : Hid (Calls Tryd.prog 14 #[.int .i64 y, .int .i64 m, .int .i64 1] w fun e w' => e = .returned (.tuple #[.int .i64 (firstD y m), .int .i64 0]) ∧ w = w') := Lib.hid ((dayOf_any y m 1 w ht).mono (by
        rintro e w' ⟨h, rfl⟩
        refine ⟨?_, rfl⟩
        rcases h with ⟨_, _, rfl⟩ | ⟨hn, _⟩
        · rw [show Cal.ys y + Cal.cum y m + 1 - 1 = firstD y m by unfold firstD; omega]
        · exact absurd ⟨⟨y1, y2, m1, m2, by omega, by assumption⟩, h2⟩ hn))
      have hL : firstD y m + Cal.ml y m - 1 = lastD y m := by unfold firstD lastD; omega
      have hml := Cal.ml_bd y m m1 m2
      have hf : firstD y m ≤ 100000 := by unfold firstD; omega
      have hf0 : 0 ≤ firstD y m := by
        have a := Cal.ys_bd y y1 (by omega)
        have b := Cal.cum_bd y m m1 (by omega)
        unfold firstD; omega
      have HN : Hid (¬ DayB (firstD y m + Cal.ml y m - 1)) := Lib.hid (fun h => hg ⟨y1, y2, m1, m2, by rw [← hL]; exact h.2⟩)
      generalize Cal.ml y m = ML at HML HN hml
      generalize firstD y m = F at *
      clear ht hd hg hL h2
      go_enter Tryd.func5, Tryd.ntmps5
      go_wp2_with (first
        | (go_at_call 14; refine HDO.out.mono ?_; rintro e w' ⟨rfl, rfl⟩)
        | (go_at_call 15; refine HML.out.mono ?_; rintro e w' ⟨rfl, rfl⟩)
        | (go_at_call 16; refine (dayIsDay_no _ _ HN.out).mono ?_; rintro e w' ⟨rfl, rfl⟩))
      go_ret2
      exact HB.out
    · have HDO : Hid (Calls Tryd.prog 14 #[.int .i64 y, .int .i64 m, .int .i64 1] w fun e w' => e = .returned (.tuple #[.int .i64 0, .int .i64 2]) ∧ w = w') := Lib.hid ((dayOf_any y m 1 w ht).mono (by
        rintro e w' ⟨h, rfl⟩
        refine ⟨?_, rfl⟩
        rcases h with ⟨a, b, rfl⟩ | ⟨_, h⟩
        · exact absurd ⟨a, b⟩ h1
        · exact h))
      clear ht hd hg h1
      go_enter Tryd.func5, Tryd.ntmps5
      go_wp2_with (first
        | (go_at_call 14; refine HDO.out.mono ?_; rintro e w' ⟨rfl, rfl⟩))
      go_ret2
      exact HB.out
end Go.Proofs.YtfpiannnggkdiaaDoor
