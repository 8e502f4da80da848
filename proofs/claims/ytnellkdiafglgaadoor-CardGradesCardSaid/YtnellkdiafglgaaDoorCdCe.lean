/- Cards: GradeAt, Bury; GradeAtOf, BuryOf. -/
import Derived.Test.YtnellkdiafglgaaDoorCdCd
namespace Go.Proofs.YtnellkdiafglgaaDoor
open Go.RowKit Go.Shelf Go.Joins

set_option maxRecDepth 100000 in
set_option maxHeartbeats 8000000 in
theorem gradeAt_any (l : List StV) (A : Option Addr) (c : Nat) (p g d : Int) (w : World) (ht : TabG w) (hl : StVsAt w w.heap.size A l) :
    Calls Tryd.prog 25 #[.slice A l.length c, .int .i64 p, .int .i64 g, .int .i64 d] w (GivesSts (gaL l p g d) (gaE l p g d) w) := by
  have HC := Lib.hid (checkAt_any l A c p w hl)
  have HL := Lib.hid hl
  have HT := Lib.hid ht
  by_cases hc : caE l p = 0
  case neg =>
    have he : gaE l p g d = caE l p := by unfold gaE; rw [if_pos hc]
    have hL : gaL l p g d = [] := by unfold gaL; rw [he, if_neg hc]
    rw [he, hL]
    clear he hL hl
    have hc' : (caE l p != 0) = true := bne_iff_ne.2 hc
    clear hc
    generalize caE l p = E at *
    generalize l.length = N at *
    go_enter Tryd.func25, Tryd.ntmps25
    go_wp2_with fail
    refine HC.out.mono ?_
    rintro e1 w1 ⟨rfl, hb1⟩
    have HB1 := Lib.hid hb1
    clear hb1
    go_wp2_with fail
    go_ret2
    exact givesSts_none HB1.out
  case pos =>
    obtain ⟨hs0, k, rfl, hkl⟩ := caE_ok hc
    have hNs := statesE_few hs0
    have he : gaE l k g d = gradeE l[k] g d := by unfold gaE; rw [if_neg (by rw [hc]; simp), Int.toNat_natCast, getD_at hkl]
    have hLL : gaL l k g d = if gradeE l[k] g d = 0 then l.set k (gradedV l[k] g d) else [] := by unfold gaL; rw [he, Int.toNat_natCast, getD_at hkl]
    rw [he, hLL]
    rw [hc] at HC
    obtain ⟨y, hy⟩ : ∃ y, y = l[k] := ⟨_, rfl⟩
    have HY := Lib.hid hy
    rw [← hy]
    have HG := Lib.hid (fun W hW => grade_any y g d W hW)
    have HCL := Lib.hid (fun W (hW : Below w.heap.size w W) => stClone_any l A c W (by omega) (by omega) (hl.up hW))
    have hyv : y.v = .agg #[.int .i64 y.bl, .int .i64 y.no, .int .i64 y.st, .int .i64 y.ea, .int .i64 y.du, .int .i64 y.la, .int .i64 y.ti, .int .i64 y.lp, .int .i64 y.bu] := rfl
    rw [hyv] at HG
    obtain ⟨N, hN⟩ : ∃ N, N = l.length := ⟨_, rfl⟩
    have HNL := Lib.hid hN
    rw [← hN] at HC HCL hkl hNs ⊢
    clear he hLL hl hc hs0 hyv hy hN ht
    have p1 : (k : Int) < N := by omega
    have p0 : (0 : Int) ≤ k := by omega
    obtain ⟨V, hV⟩ : ∃ V, V = gradeV y g d := ⟨_, rfl⟩
    obtain ⟨E, hE⟩ : ∃ E, E = gradeE y g d := ⟨_, rfl⟩
    have HV : Hid (E = 0 → V = gradedV y g d) := Lib.hid (fun h => by rw [hV, gradeV_good (by rw [← hE]; exact h)])
    rw [← hV, ← hE] at HG
    rw [← hE]
    have hvv : V.v = .agg #[.int .i64 V.bl, .int .i64 V.no, .int .i64 V.st, .int .i64 V.ea, .int .i64 V.du, .int .i64 V.la, .int .i64 V.ti, .int .i64 V.lp, .int .i64 V.bu] := rfl
    rw [hvv] at HG
    obtain ⟨LO, hLO⟩ : ∃ LO, LO = if E = 0 then l.set k (gradedV y g d) else [] := ⟨_, rfl⟩
    rw [← hLO]
    have HLO := Lib.hid hLO
    clear hV hE hvv hLO
    go_enter Tryd.func25, Tryd.ntmps25
    go_wp2_with fail
    refine HC.out.mono ?_
    rintro e1 w1 ⟨rfl, hb1⟩
    have HB1 := Lib.hid hb1
    clear hb1
    have hkl2 : k < l.length := by rw [← HNL.out]; exact hkl
    obtain ⟨b1, o1, hA, hbl, c0, c1, c2, c3, c4, c5, c6, c7, c8⟩ := HL.out.at_ HB1.out hkl2
    subst hA
    rw [← HY.out] at c0 c1 c2 c3 c4 c5 c6 c7 c8
    go_wp2_with fail
    refine (HG.out _ (HT.out.below HB1.out)).mono ?_
    rintro e2 w2 ⟨rfl, hb2⟩
    have HB2 := Lib.hid (HB1.out.trans (hb2.mono HB1.out.size))
    clear hb2 c0 c1 c2 c3 c4 c5 c6 c7 c8
    have HB3 := Lib.hid (HB2.out.alloc HB2.out.size (.cells #[.int .i64 V.bl, .int .i64 V.no, .int .i64 V.st, .int .i64 V.ea, .int .i64 V.du, .int .i64 V.la, .int .i64 V.ti, .int .i64 V.lp, .int .i64 V.bu] 23))
    have HX3 := Lib.hid (heap_alloc_new w2 (.cells #[.int .i64 V.bl, .int .i64 V.no, .int .i64 V.st, .int .i64 V.ea, .int .i64 V.du, .int .i64 V.la, .int .i64 V.ti, .int .i64 V.lp, .int .i64 V.bu] 23))
    by_cases hE : E = 0
    case neg =>
      have hE' : (E != 0) = true := bne_iff_ne.2 hE
      have HF : Hid (LO = []) := Lib.hid (by rw [HLO.out, if_neg hE])
      clear hE
      go_wp2_with fail
      go_ret2
      rw [HF.out]
      exact givesSts_none HB3.out
    case pos =>
      have HF : Hid (LO = l.set k V) := Lib.hid (by rw [HLO.out, if_pos hE, HV.out hE])
      subst hE
      go_wp2_with fail
      refine (HCL.out _ HB3.out).mono ?_
      rintro e4 w4 ⟨g4, c4, rfl, hown⟩
      have HB4 := Lib.hid (HB3.out.trans (hown.bel.mono HB3.out.size))
      have HX4 := Lib.hid ((hown.bel.block _ (lt_of_block HX3.out)).trans HX3.out)
      have hgx : w2.heap.size < g4 := by have := hown.lo; simp at this; omega
      obtain ⟨y0, y1, y2, y3, y4, y5, y6, y7, y8⟩ := st_nine HX4.out
      obtain ⟨b2, o2, hA2, hB2, c0, c1, c2, c3, c4', c5, c6, c7, c8⟩ := hown.at_ k _ (List.getElem?_eq_getElem hkl2)
      simp only [Option.some.injEq, Addr.mk.injEq, and_true] at hA2
      obtain ⟨rfl, rfl⟩ := hA2
      rw [Nat.zero_add] at c0 c1 c2 c3 c4' c5 c6 c7 c8
      have f0 := hown.warm (k * 9)
      have f1 := hown.warm (k * 9 + 1)
      have f2 := hown.warm (k * 9 + 2)
      have f3 := hown.warm (k * 9 + 3)
      have f4 := hown.warm (k * 9 + 4)
      have f5 := hown.warm (k * 9 + 5)
      have f6 := hown.warm (k * 9 + 6)
      have f7 := hown.warm (k * 9 + 7)
      have f8 := hown.warm (k * 9 + 8)
      have HO := Lib.hid (hown.put hkl2 V)
      have HBW : Hid (Below w.heap.size w (putAt w4 g4 (k * 9) V)) := Lib.hid (putAt_below HB4.out _ _ _ (by have := HB3.out.size; simp at this; omega))
      have HLS : Hid ((l.set k V).length = N) := Lib.hid (by rw [List.length_set]; exact HNL.out.symm)
      clear hown
      obtain ⟨W5, hW5⟩ : ∃ W5, W5 = putAt w4 g4 (k * 9) V := ⟨_, rfl⟩
      rw [← hW5] at HO HBW
      unfold putAt at hW5
      go_upto_region 9 with fail
      rw [← hW5]
      clear hW5 y0 y1 y2 y3 y4 y5 y6 y7 y8 c0 c1 c2 c3 c4' c5 c6 c7 c8 f0 f1 f2 f3 f4 f5 f6 f7 f8
      go_wp2_with fail
      go_ret2
      exact ⟨some ⟨g4, 0, none⟩, c4, by rw [HF.out, HLS.out] <;> rfl, by rw [HF.out]; exact HO.out.at_, HBW.out⟩
set_option maxRecDepth 100000 in
set_option maxHeartbeats 8000000 in
theorem gradeAtOf_any (l : List StV) (A : Option Addr) (c : Nat) (p g d : Int) (w : World) (hl : StVsAt w w.heap.size A l) :
    Calls Tryd.prog 26 #[.slice A l.length c, .int .i64 p, .int .i64 g, .int .i64 d] w (GivesSts (gaL l p g d) (gaE l p g d) w) := by
  have HC := Lib.hid (statesFault_any l A c w hl)
  have HL := Lib.hid hl
  skip
  by_cases hc : caE l p = 0
  case neg =>
    have he : gaE l p g d = caE l p := by unfold gaE; rw [if_pos hc]
    have hL : gaL l p g d = [] := by unfold gaL; rw [he, if_neg hc]
    rw [he, hL]
    clear he hL hl
    have HNZ : Hid (caE l p ≠ 0) := Lib.hid hc
    have HCE : Hid (caE l p = if statesE l ≠ 0 then statesE l else if p < 0 ∨ (l.length : Int) ≤ p then 7 else 0) := Lib.hid rfl
    clear hc
    generalize caE l p = R at *
    generalize statesE l = E at *
    generalize l.length = N at *
    by_cases hE : E = 0
    case neg =>
      have hE' : (E != 0) = true := bne_iff_ne.2 hE
      have HF : Hid (R = E) := Lib.hid (by rw [HCE.out, if_pos hE])
      rw [HF.out]
      clear hE
      go_enter Tryd.func26, Tryd.ntmps26
      go_wp2_with fail
      refine HC.out.mono ?_
      rintro e1 w1 ⟨rfl, hb1⟩
      have HB1 := Lib.hid hb1
      clear hb1
      go_wp2_with fail
      go_ret2
      exact givesSts_none HB1.out
    case pos =>
      subst hE
      rcases (by omega : p < 0 ∨ (0 ≤ p ∧ (N : Int) ≤ p) ∨ (0 ≤ p ∧ p < N)) with h1 | ⟨h1, h2⟩ | ⟨h1, h2⟩
      case' inl => have HF : Hid (R = 7) := Lib.hid (by rw [HCE.out, if_neg (by simp), if_pos (by omega)])
      case' inr.inl => have HF : Hid (R = 7) := Lib.hid (by rw [HCE.out, if_neg (by simp), if_pos (by omega)])
      case inr.inr => exact absurd (by rw [HCE.out, if_neg (by simp), if_neg (by omega)]) HNZ.out
      all_goals
        rw [HF.out]
        go_enter Tryd.func26, Tryd.ntmps26
        go_wp2_with fail
        refine HC.out.mono ?_
        rintro e1 w1 ⟨rfl, hb1⟩
        have HB1 := Lib.hid hb1
        clear hb1
        go_wp2_with fail
        go_ret2
        exact givesSts_none HB1.out
  case pos =>
    obtain ⟨hs0, k, rfl, hkl⟩ := caE_ok hc
    have hNs := statesE_few hs0
    have he : gaE l k g d = gradeE l[k] g d := by unfold gaE; rw [if_neg (by rw [hc]; simp), Int.toNat_natCast, getD_at hkl]
    have hLL : gaL l k g d = if gradeE l[k] g d = 0 then l.set k (gradedV l[k] g d) else [] := by unfold gaL; rw [he, Int.toNat_natCast, getD_at hkl]
    rw [he, hLL]
    rw [hs0] at HC
    obtain ⟨y, hy⟩ : ∃ y, y = l[k] := ⟨_, rfl⟩
    have HY := Lib.hid hy
    rw [← hy]
    have HG := Lib.hid (fun W => gradeOf_any y g d W)
    have HCL := Lib.hid (fun W (hW : Below w.heap.size w W) => stClone_any l A c W (by omega) (by omega) (hl.up hW))
    have hyv : y.v = .agg #[.int .i64 y.bl, .int .i64 y.no, .int .i64 y.st, .int .i64 y.ea, .int .i64 y.du, .int .i64 y.la, .int .i64 y.ti, .int .i64 y.lp, .int .i64 y.bu] := rfl
    rw [hyv] at HG
    obtain ⟨N, hN⟩ : ∃ N, N = l.length := ⟨_, rfl⟩
    have HNL := Lib.hid hN
    rw [← hN] at HC HCL hkl hNs ⊢
    clear he hLL hl hc hs0 hyv hy hN
    have p1 : (k : Int) < N := by omega
    have p0 : (0 : Int) ≤ k := by omega
    obtain ⟨V, hV⟩ : ∃ V, V = gradeV y g d := ⟨_, rfl⟩
    obtain ⟨E, hE⟩ : ∃ E, E = gradeE y g d := ⟨_, rfl⟩
    have HV : Hid (E = 0 → V = gradedV y g d) := Lib.hid (fun h => by rw [hV, gradeV_good (by rw [← hE]; exact h)])
    rw [← hV, ← hE] at HG
    rw [← hE]
    have hvv : V.v = .agg #[.int .i64 V.bl, .int .i64 V.no, .int .i64 V.st, .int .i64 V.ea, .int .i64 V.du, .int .i64 V.la, .int .i64 V.ti, .int .i64 V.lp, .int .i64 V.bu] := rfl
    rw [hvv] at HG
    obtain ⟨LO, hLO⟩ : ∃ LO, LO = if E = 0 then l.set k (gradedV y g d) else [] := ⟨_, rfl⟩
    rw [← hLO]
    have HLO := Lib.hid hLO
    clear hV hE hvv hLO
    go_enter Tryd.func26, Tryd.ntmps26
    go_wp2_with fail
    refine HC.out.mono ?_
    rintro e1 w1 ⟨rfl, hb1⟩
    have HB1 := Lib.hid hb1
    clear hb1
    have hkl2 : k < l.length := by rw [← HNL.out]; exact hkl
    obtain ⟨b1, o1, hA, hbl, c0, c1, c2, c3, c4, c5, c6, c7, c8⟩ := HL.out.at_ HB1.out hkl2
    subst hA
    rw [← HY.out] at c0 c1 c2 c3 c4 c5 c6 c7 c8
    go_wp2_with fail
    refine (HG.out _).mono ?_
    rintro e2 w2 ⟨rfl, hb2⟩
    have HB2 := Lib.hid (HB1.out.trans (hb2.mono HB1.out.size))
    clear hb2 c0 c1 c2 c3 c4 c5 c6 c7 c8
    have HB3 := Lib.hid (HB2.out.alloc HB2.out.size (.cells #[.int .i64 V.bl, .int .i64 V.no, .int .i64 V.st, .int .i64 V.ea, .int .i64 V.du, .int .i64 V.la, .int .i64 V.ti, .int .i64 V.lp, .int .i64 V.bu] 23))
    have HX3 := Lib.hid (heap_alloc_new w2 (.cells #[.int .i64 V.bl, .int .i64 V.no, .int .i64 V.st, .int .i64 V.ea, .int .i64 V.du, .int .i64 V.la, .int .i64 V.ti, .int .i64 V.lp, .int .i64 V.bu] 23))
    by_cases hE : E = 0
    case neg =>
      have hE' : (E != 0) = true := bne_iff_ne.2 hE
      have HF : Hid (LO = []) := Lib.hid (by rw [HLO.out, if_neg hE])
      clear hE
      go_wp2_with fail
      go_ret2
      rw [HF.out]
      exact givesSts_none HB3.out
    case pos =>
      have HF : Hid (LO = l.set k V) := Lib.hid (by rw [HLO.out, if_pos hE, HV.out hE])
      subst hE
      go_wp2_with fail
      refine (HCL.out _ HB3.out).mono ?_
      rintro e4 w4 ⟨g4, c4, rfl, hown⟩
      have HB4 := Lib.hid (HB3.out.trans (hown.bel.mono HB3.out.size))
      have HX4 := Lib.hid ((hown.bel.block _ (lt_of_block HX3.out)).trans HX3.out)
      have hgx : w2.heap.size < g4 := by have := hown.lo; simp at this; omega
      obtain ⟨y0, y1, y2, y3, y4, y5, y6, y7, y8⟩ := st_nine HX4.out
      obtain ⟨b2, o2, hA2, hB2, c0, c1, c2, c3, c4', c5, c6, c7, c8⟩ := hown.at_ k _ (List.getElem?_eq_getElem hkl2)
      simp only [Option.some.injEq, Addr.mk.injEq, and_true] at hA2
      obtain ⟨rfl, rfl⟩ := hA2
      rw [Nat.zero_add] at c0 c1 c2 c3 c4' c5 c6 c7 c8
      have f0 := hown.warm (k * 9)
      have f1 := hown.warm (k * 9 + 1)
      have f2 := hown.warm (k * 9 + 2)
      have f3 := hown.warm (k * 9 + 3)
      have f4 := hown.warm (k * 9 + 4)
      have f5 := hown.warm (k * 9 + 5)
      have f6 := hown.warm (k * 9 + 6)
      have f7 := hown.warm (k * 9 + 7)
      have f8 := hown.warm (k * 9 + 8)
      have HO := Lib.hid (hown.put hkl2 V)
      have HBW : Hid (Below w.heap.size w (putAt w4 g4 (k * 9) V)) := Lib.hid (putAt_below HB4.out _ _ _ (by have := HB3.out.size; simp at this; omega))
      have HLS : Hid ((l.set k V).length = N) := Lib.hid (by rw [List.length_set]; exact HNL.out.symm)
      clear hown
      obtain ⟨W5, hW5⟩ : ∃ W5, W5 = putAt w4 g4 (k * 9) V := ⟨_, rfl⟩
      rw [← hW5] at HO HBW
      unfold putAt at hW5
      go_upto_region 11 with fail
      rw [← hW5]
      clear hW5 y0 y1 y2 y3 y4 y5 y6 y7 y8 c0 c1 c2 c3 c4' c5 c6 c7 c8 f0 f1 f2 f3 f4 f5 f6 f7 f8
      go_wp2_with fail
      go_ret2
      exact ⟨some ⟨g4, 0, none⟩, c4, by rw [HF.out, HLS.out] <;> rfl, by rw [HF.out]; exact HO.out.at_, HBW.out⟩
set_option maxRecDepth 100000 in
set_option maxHeartbeats 8000000 in
theorem bury_any (l : List StV) (A : Option Addr) (c : Nat) (p d : Int) (w : World) (hl : StVsAt w w.heap.size A l) :
    Calls Tryd.prog 27 #[.slice A l.length c, .int .i64 p, .int .i64 d] w (GivesSts (buL l p d) (buE l p d) w) := by
  have HC := Lib.hid (checkAt_any l A c p w hl)
  have HL := Lib.hid hl
  skip
  by_cases hc : caE l p = 0
  case neg =>
    have he : buE l p d = caE l p := by unfold buE; rw [if_pos hc]
    have hL : buL l p d = [] := by unfold buL; rw [he, if_neg hc]
    rw [he, hL]
    clear he hL hl
    have hc' : (caE l p != 0) = true := bne_iff_ne.2 hc
    clear hc
    generalize caE l p = E at *
    generalize l.length = N at *
    go_enter Tryd.func27, Tryd.ntmps27
    go_wp2_with fail
    refine HC.out.mono ?_
    rintro e1 w1 ⟨rfl, hb1⟩
    have HB1 := Lib.hid hb1
    clear hb1
    go_wp2_with fail
    go_ret2
    exact givesSts_none HB1.out
  case pos =>
    obtain ⟨hs0, k, rfl, hkl⟩ := caE_ok hc
    have hNs := statesE_few hs0
    have he : buE l k d = if d < 0 ∨ 100000 < d then 2 else 0 := by unfold buE; rw [if_neg (by rw [hc]; simp)]
    have hLL : buL l k d = if d < 0 ∨ 100000 < d then [] else l.set k { l[k] with bu := d } := by
      unfold buL
      rw [he, Int.toNat_natCast, getD_at hkl]
      by_cases hd : d < 0 ∨ 100000 < d
      · rw [if_pos hd, if_pos hd, if_neg (by decide)]
      · rw [if_neg hd, if_neg hd, if_pos rfl]
    rw [he, hLL]
    rw [hc] at HC
    have HD := Lib.hid (fun W => isDay_p d W)
    have HCL := Lib.hid (fun W (hW : Below w.heap.size w W) => stClone_any l A c W (by omega) (by omega) (hl.up hW))
    obtain ⟨N, hN⟩ : ∃ N, N = l.length := ⟨_, rfl⟩
    have HNL := Lib.hid hN
    rw [← hN] at HC HCL hkl hNs ⊢
    clear he hLL hl hc hs0 hN
    have p1 : (k : Int) < N := by omega
    have p0 : (0 : Int) ≤ k := by omega
    have hkl2 : k < l.length := by rw [← HNL.out]; exact hkl
    by_cases hd : 0 ≤ d ∧ d ≤ 100000
    case neg =>
      rw [if_pos (by omega), if_pos (by omega)]
      rw [pFrom_false hd] at HD
      clear hd
      go_enter Tryd.func27, Tryd.ntmps27
      go_wp2_with fail
      refine HC.out.mono ?_
      rintro e1 w1 ⟨rfl, hb1⟩
      have HB1 := Lib.hid hb1
      clear hb1
      go_wp2_with fail
      refine (HD.out _).mono ?_
      rintro e2 w2 ⟨rfl, rfl⟩
      go_wp2_with fail
      go_ret2
      exact givesSts_none HB1.out
    case pos =>
      rw [if_neg (by omega), if_neg (by omega)]
      rw [pFrom_true hd] at HD
      obtain ⟨LO, hLO⟩ : ∃ LO, LO = l.set k { l[k] with bu := d } := ⟨_, rfl⟩
      rw [← hLO]
      have HF := Lib.hid hLO
      clear hd hLO
      go_enter Tryd.func27, Tryd.ntmps27
      go_wp2_with fail
      refine HC.out.mono ?_
      rintro e1 w1 ⟨rfl, hb1⟩
      have HB1 := Lib.hid hb1
      clear hb1
      go_wp2_with fail
      refine (HD.out _).mono ?_
      rintro e2 w2 ⟨rfl, rfl⟩
      go_wp2_with fail
      refine (HCL.out _ HB1.out).mono ?_
      rintro e4 w4 ⟨g4, c4, rfl, hown⟩
      have HB4 := Lib.hid (HB1.out.trans (hown.bel.mono HB1.out.size))
      have hlo := hown.lo
      have hsz1 := HB1.out.size
      obtain ⟨b2, o2, hA2, hB2, c0, c1, c2, c3, c4', c5, c6, c7, c8⟩ := hown.at_ k _ (List.getElem?_eq_getElem hkl2)
      simp only [Option.some.injEq, Addr.mk.injEq, and_true] at hA2
      obtain ⟨rfl, rfl⟩ := hA2
      rw [Nat.zero_add] at c8
      have f8 := hown.warm (k * 9 + 8)
      have HO := Lib.hid (hown.bury hkl2 d)
      have HBW : Hid (Below w.heap.size w (w4.setCell ⟨g4, k * 9 + 8, none⟩ (.int .i64 d))) := Lib.hid (HB4.out.setCell (by show w.heap.size ≤ g4; omega) _)
      have HLS : Hid ((l.set k { l[k] with bu := d }).length = N) := Lib.hid (by rw [List.length_set]; exact HNL.out.symm)
      clear hown c0 c1 c2 c3 c4' c5 c6 c7
      go_wp2_with fail
      go_ret2
      exact ⟨some ⟨g4, 0, none⟩, c4, by rw [HF.out, HLS.out] <;> rfl, by rw [HF.out]; exact HO.out.at_, HBW.out⟩
set_option maxRecDepth 100000 in
set_option maxHeartbeats 8000000 in
theorem buryOf_any (l : List StV) (A : Option Addr) (c : Nat) (p d : Int) (w : World) (hl : StVsAt w w.heap.size A l) :
    Calls Tryd.prog 28 #[.slice A l.length c, .int .i64 p, .int .i64 d] w (GivesSts (buL l p d) (buE l p d) w) := by
  have HC := Lib.hid (statesFault_any l A c w hl)
  have HL := Lib.hid hl
  skip
  by_cases hc : caE l p = 0
  case neg =>
    have he : buE l p d = caE l p := by unfold buE; rw [if_pos hc]
    have hL : buL l p d = [] := by unfold buL; rw [he, if_neg hc]
    rw [he, hL]
    clear he hL hl
    have HNZ : Hid (caE l p ≠ 0) := Lib.hid hc
    have HCE : Hid (caE l p = if statesE l ≠ 0 then statesE l else if p < 0 ∨ (l.length : Int) ≤ p then 7 else 0) := Lib.hid rfl
    clear hc
    generalize caE l p = R at *
    generalize statesE l = E at *
    generalize l.length = N at *
    by_cases hE : E = 0
    case neg =>
      have hE' : (E != 0) = true := bne_iff_ne.2 hE
      have HF : Hid (R = E) := Lib.hid (by rw [HCE.out, if_pos hE])
      rw [HF.out]
      clear hE
      go_enter Tryd.func28, Tryd.ntmps28
      go_wp2_with fail
      refine HC.out.mono ?_
      rintro e1 w1 ⟨rfl, hb1⟩
      have HB1 := Lib.hid hb1
      clear hb1
      go_wp2_with fail
      go_ret2
      exact givesSts_none HB1.out
    case pos =>
      subst hE
      rcases (by omega : p < 0 ∨ (0 ≤ p ∧ (N : Int) ≤ p) ∨ (0 ≤ p ∧ p < N)) with h1 | ⟨h1, h2⟩ | ⟨h1, h2⟩
      case' inl => have HF : Hid (R = 7) := Lib.hid (by rw [HCE.out, if_neg (by simp), if_pos (by omega)])
      case' inr.inl => have HF : Hid (R = 7) := Lib.hid (by rw [HCE.out, if_neg (by simp), if_pos (by omega)])
      case inr.inr => exact absurd (by rw [HCE.out, if_neg (by simp), if_neg (by omega)]) HNZ.out
      all_goals
        rw [HF.out]
        go_enter Tryd.func28, Tryd.ntmps28
        go_wp2_with fail
        refine HC.out.mono ?_
        rintro e1 w1 ⟨rfl, hb1⟩
        have HB1 := Lib.hid hb1
        clear hb1
        go_wp2_with fail
        go_ret2
        exact givesSts_none HB1.out
  case pos =>
    obtain ⟨hs0, k, rfl, hkl⟩ := caE_ok hc
    have hNs := statesE_few hs0
    have he : buE l k d = if d < 0 ∨ 100000 < d then 2 else 0 := by unfold buE; rw [if_neg (by rw [hc]; simp)]
    have hLL : buL l k d = if d < 0 ∨ 100000 < d then [] else l.set k { l[k] with bu := d } := by
      unfold buL
      rw [he, Int.toNat_natCast, getD_at hkl]
      by_cases hd : d < 0 ∨ 100000 < d
      · rw [if_pos hd, if_pos hd, if_neg (by decide)]
      · rw [if_neg hd, if_neg hd, if_pos rfl]
    rw [he, hLL]
    rw [hs0] at HC
    have HD := Lib.hid (fun W => refIsDay_p d W)
    have HCL := Lib.hid (fun W (hW : Below w.heap.size w W) => stClone_any l A c W (by omega) (by omega) (hl.up hW))
    obtain ⟨N, hN⟩ : ∃ N, N = l.length := ⟨_, rfl⟩
    have HNL := Lib.hid hN
    rw [← hN] at HC HCL hkl hNs ⊢
    clear he hLL hl hc hs0 hN
    have p1 : (k : Int) < N := by omega
    have p0 : (0 : Int) ≤ k := by omega
    have hkl2 : k < l.length := by rw [← HNL.out]; exact hkl
    by_cases hd : 0 ≤ d ∧ d ≤ 100000
    case neg =>
      rw [if_pos (by omega), if_pos (by omega)]
      rw [pFrom_false hd] at HD
      clear hd
      go_enter Tryd.func28, Tryd.ntmps28
      go_wp2_with fail
      refine HC.out.mono ?_
      rintro e1 w1 ⟨rfl, hb1⟩
      have HB1 := Lib.hid hb1
      clear hb1
      go_wp2_with fail
      refine (HD.out _).mono ?_
      rintro e2 w2 ⟨rfl, rfl⟩
      go_wp2_with fail
      go_ret2
      exact givesSts_none HB1.out
    case pos =>
      rw [if_neg (by omega), if_neg (by omega)]
      rw [pFrom_true hd] at HD
      obtain ⟨LO, hLO⟩ : ∃ LO, LO = l.set k { l[k] with bu := d } := ⟨_, rfl⟩
      rw [← hLO]
      have HF := Lib.hid hLO
      clear hd hLO
      go_enter Tryd.func28, Tryd.ntmps28
      go_wp2_with fail
      refine HC.out.mono ?_
      rintro e1 w1 ⟨rfl, hb1⟩
      have HB1 := Lib.hid hb1
      clear hb1
      go_wp2_with fail
      refine (HD.out _).mono ?_
      rintro e2 w2 ⟨rfl, rfl⟩
      go_wp2_with fail
      refine (HCL.out _ HB1.out).mono ?_
      rintro e4 w4 ⟨g4, c4, rfl, hown⟩
      have HB4 := Lib.hid (HB1.out.trans (hown.bel.mono HB1.out.size))
      have hlo := hown.lo
      have hsz1 := HB1.out.size
      obtain ⟨b2, o2, hA2, hB2, c0, c1, c2, c3, c4', c5, c6, c7, c8⟩ := hown.at_ k _ (List.getElem?_eq_getElem hkl2)
      simp only [Option.some.injEq, Addr.mk.injEq, and_true] at hA2
      obtain ⟨rfl, rfl⟩ := hA2
      rw [Nat.zero_add] at c8
      have f8 := hown.warm (k * 9 + 8)
      have HO := Lib.hid (hown.bury hkl2 d)
      have HBW : Hid (Below w.heap.size w (w4.setCell ⟨g4, k * 9 + 8, none⟩ (.int .i64 d))) := Lib.hid (HB4.out.setCell (by show w.heap.size ≤ g4; omega) _)
      have HLS : Hid ((l.set k { l[k] with bu := d }).length = N) := Lib.hid (by rw [List.length_set]; exact HNL.out.symm)
      clear hown c0 c1 c2 c3 c4' c5 c6 c7
      go_wp2_with fail
      go_ret2
      exact ⟨some ⟨g4, 0, none⟩, c4, by rw [HF.out, HLS.out] <;> rfl, by rw [HF.out]; exact HO.out.at_, HBW.out⟩
end Go.Proofs.YtnellkdiafglgaaDoor
