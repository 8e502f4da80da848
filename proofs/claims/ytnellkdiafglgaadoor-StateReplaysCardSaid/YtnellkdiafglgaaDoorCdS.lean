/- Cards: ReplayOf of the reference. -/
import Derived.Test.YtnellkdiafglgaaDoorCdR
namespace Go.Proofs.YtnellkdiafglgaaDoor
open Go.RowKit Go.Shelf

set_option maxRecDepth 100000 in
set_option maxHeartbeats 8000000 in
theorem replayOf_any (b n : Int) (l : List RvV) (A : Option Addr) (c : Nat) (w : World) (hl : RvVsAt w w.heap.size A l) :
    Calls Tryd.prog 24 #[.int .i64 b, .int .i64 n, .slice A l.length c] w fun e w' => e = .returned (.tuple #[(replayV b n l).1.v, .int .i64 (replayV b n l).2.1, .int .i64 (replayV b n l).2.2]) ∧ Below w.heap.size w w' := by
  have HN := Lib.hid (fun W => newOf_any b n W)
  have HL := Lib.hid hl
  skip
  obtain ⟨R, hR⟩ : ∃ R, R = replayV b n l := ⟨_, rfl⟩
  rw [← hR]
  have HR : Hid (R = if stE (StV.fresh b n) ≠ 0 then (StV.zero, 0, stE (StV.fresh b n)) else if 20000 < l.length then (StV.zero, 0, 4) else rep b n 0 (StV.fresh b n) l) := Lib.hid hR
  have hnv : newV b n = if stE (StV.fresh b n) = 0 then StV.fresh b n else StV.zero := rfl
  obtain ⟨V, hV⟩ : ∃ V, V = newV b n := ⟨_, rfl⟩
  rw [← hV] at HN hnv
  have hvv : V.v = .agg #[.int .i64 V.bl, .int .i64 V.no, .int .i64 V.st, .int .i64 V.ea, .int .i64 V.du, .int .i64 V.la, .int .i64 V.ti, .int .i64 V.lp, .int .i64 V.bu] := rfl
  rw [hvv] at HN
  obtain ⟨E, hE⟩ : ∃ E, E = stE (StV.fresh b n) := ⟨_, rfl⟩
  rw [← hE] at HN HR hnv
  have HNV := Lib.hid hnv
  have HREND := Lib.hid (fun x => rep_end b n x l)
  have HRAT := Lib.hid (fun x k h => rep_at b n x l k h)
  clear hR hV hvv hE hnv hl
  obtain ⟨N, hN⟩ : ∃ N, N = l.length := ⟨_, rfl⟩
  rw [← hN] at HR HREND ⊢
  have HNL := Lib.hid hN
  clear hN
  have hb0 := (Below.refl w.heap.size w).alloc (Nat.le_refl _) (.cells #[.int .i64 0, .int .i64 0, .int .i64 0, .int .i64 0, .int .i64 0, .int .i64 0, .int .i64 0, .int .i64 0, .int .i64 0] 23)
  have HB0 := Lib.hid hb0
  have HR0 := Lib.hid (heap_alloc_new w (.cells #[.int .i64 0, .int .i64 0, .int .i64 0, .int .i64 0, .int .i64 0, .int .i64 0, .int .i64 0, .int .i64 0, .int .i64 0] 23))
  clear hb0
  go_enter Tryd.func24, Tryd.ntmps24
  go_wp2_with fail
  refine (HN.out _).mono ?_
  rintro e1 w1 ⟨rfl, hb1⟩
  have HB1 := Lib.hid (HB0.out.trans (hb1.mono HB0.out.size))
  have HR1 := Lib.hid ((hb1.block _ (lt_of_block HR0.out)).trans HR0.out)
  clear hb1 HN
  have hlt1 := lt_of_block HR1.out
  have HB2 := Lib.hid (HB1.out.alloc HB1.out.size (.cells #[.int .i64 V.bl, .int .i64 V.no, .int .i64 V.st, .int .i64 V.ea, .int .i64 V.du, .int .i64 V.la, .int .i64 V.ti, .int .i64 V.lp, .int .i64 V.bu] 23))
  have HX2 : Hid ((w1.alloc (.cells #[.int .i64 V.bl, .int .i64 V.no, .int .i64 V.st, .int .i64 V.ea, .int .i64 V.du, .int .i64 V.la, .int .i64 V.ti, .int .i64 V.lp, .int .i64 V.bu] 23)).heap[w1.heap.size]? = some (.cells V.cells 23 (0, 0))) := Lib.hid (heap_alloc_new w1 _)
  have HR2 : Hid ((w1.alloc (.cells #[.int .i64 V.bl, .int .i64 V.no, .int .i64 V.st, .int .i64 V.ea, .int .i64 V.du, .int .i64 V.la, .int .i64 V.ti, .int .i64 V.lp, .int .i64 V.bu] 23)).heap[w.heap.size]? = some (.cells StV.zero.cells 23 (0, 0))) := Lib.hid ((Below.heap_alloc w1 _ _ hlt1).trans HR1.out)
  obtain ⟨q0, q1, q2, q3, q4, q5, q6, q7, q8⟩ := st_nine HR1.out
  obtain ⟨g0, g1, g2, g3, g4, g5, g6, g7, g8⟩ := st_nofrost HR1.out
  by_cases hE : E = 0
  case neg =>
    have hE' : (E != 0) = true := bne_iff_ne.2 hE
    have HF : Hid (R = (StV.zero, 0, E)) := Lib.hid (by rw [HR.out, if_pos hE])
    clear hE HR
    go_wp2_with fail
    refine bodyPost_ret (v := .tuple #[.agg #[.int .i64 0, .int .i64 0, .int .i64 0, .int .i64 0, .int .i64 0, .int .i64 0, .int .i64 0, .int .i64 0, .int .i64 0], .int .i64 0, .int .i64 E]) ?_ rfl ⟨by rw [HF.out]; rfl, ?_⟩
    · simp only [results, Tryd.results24]
      go_simp
    · first
      | (with_reducible refine Below.alloc ?_ (by simp; omega) _
         repeat (with_reducible refine Below.setCell ?_ (by simp) _)
         exact HB1.out)
      | (repeat (with_reducible refine Below.setCell ?_ (by simp) _)
         exact HB2.out)
  case pos =>
    subst hE
    by_cases hbig : 20000 < N
    case pos =>
      have p1 : (20000 : Int) < N := by omega
      have HF : Hid (R = (StV.zero, 0, 4)) := Lib.hid (by rw [HR.out, if_neg (by simp), if_pos hbig])
      clear hbig HR
      go_wp2_with fail
      refine bodyPost_ret (v := .tuple #[.agg #[.int .i64 0, .int .i64 0, .int .i64 0, .int .i64 0, .int .i64 0, .int .i64 0, .int .i64 0, .int .i64 0, .int .i64 0], .int .i64 0, .int .i64 4]) ?_ rfl ⟨by rw [HF.out]; rfl, ?_⟩
      · simp only [results, Tryd.results24]
        go_simp
      · first
        | (with_reducible refine Below.alloc ?_ (by simp; omega) _
           repeat (with_reducible refine Below.setCell ?_ (by simp) _)
           exact HB1.out)
        | (repeat (with_reducible refine Below.setCell ?_ (by simp) _)
           exact HB2.out)
    case neg =>
      have p1 : ¬ (20000 : Int) < N := by omega
      have hNs : N ≤ 20000 := by omega
      have HS : Hid (RpRow w w1.heap.size b n R l 0 V (w1.alloc (.cells #[.int .i64 V.bl, .int .i64 V.no, .int .i64 V.st, .int .i64 V.ea, .int .i64 V.du, .int .i64 V.la, .int .i64 V.ti, .int .i64 V.lp, .int .i64 V.bu] 23))) := Lib.hid ⟨HB2.out, HX2.out, HR2.out, by
        have hv : V = StV.fresh b n := by rw [HNV.out, if_pos rfl]
        rw [HR.out, if_neg (by simp), if_neg hbig, hv, List.drop_zero], by rw [HNV.out, if_pos rfl]; rfl, by rw [HNV.out, if_pos rfl]; rfl⟩
      clear hbig HR HB2 HX2 HR2 q0 q1 q2 q3 q4 q5 q6 q7 q8 g0 g1 g2 g3 g4 g5 g6 g7 g8
      go_wp2_with fail
      go_loopw [29] (fun i wr => ∃ (k : Nat) (x : StV), i = .int .i64 k ∧ k ≤ N ∧ Hid (RpRow w w1.heap.size b n R l k x wr)) (fun i _ => N - (intOf i).toNat)
      case atStart => exact ⟨0, V, rfl, Nat.zero_le _, HS⟩
      case round =>
        clear HS
        obtain ⟨k, x, rfl, hk, HR⟩ := hrel
        have hltX := lt_of_block HR.out.box
        obtain ⟨y0, y1, y2, y3, y4, y5, y6, y7, y8⟩ := st_ninev HR.out.box
        by_cases hlt : k < N
        case neg =>
          obtain rfl : k = N := by omega
          have HF : Hid (R = (x, 0, 0)) := Lib.hid (by rw [← HR.out.val, HREND.out x])
          have p2 : ¬ (k : Int) < k := by omega
          obtain ⟨q0, q1, q2, q3, q4, q5, q6, q7, q8⟩ := st_nine HR.out.res
          obtain ⟨g0, g1, g2, g3, g4, g5, g6, g7, g8⟩ := st_nofrost HR.out.res
          have HB := Lib.hid HR.out.bel
          have hxv : x.v = .agg #[.int .i64 x.bl, .int .i64 x.no, .int .i64 x.st, .int .i64 x.ea, .int .i64 x.du, .int .i64 x.la, .int .i64 x.ti, .int .i64 x.lp, .int .i64 x.bu] := rfl
          go_wp2_with fail
          refine bodyPost_ret (v := .tuple #[.agg #[.int .i64 x.bl, .int .i64 x.no, .int .i64 x.st, .int .i64 x.ea, .int .i64 x.du, .int .i64 x.la, .int .i64 x.ti, .int .i64 x.lp, .int .i64 x.bu], .int .i64 0, .int .i64 0]) ?_ rfl ⟨by rw [HF.out]; rfl, ?_⟩
          · simp only [results, Tryd.results24]
            go_simp
          · repeat (with_reducible refine Below.setCell ?_ (by simp) _)
            exact HB.out
        case pos =>
          have hkl : k < l.length := by rw [← HNL.out]; exact hlt
          obtain ⟨b1, o1, rfl, hbl, c0, c1, c2, c3⟩ := HL.out.at_ HR.out.bel hkl
          have hat := HRAT.out x k hkl
          rw [HR.out.val] at hat
          obtain ⟨rb, rn, rg, rd, hrb, hrn, hrg, hrd⟩ : ∃ rb rn rg rd, l[k].bl = rb ∧ l[k].no = rn ∧ l[k].gr = rg ∧ l[k].dy = rd := ⟨_, _, _, _, rfl, rfl, rfl, rfl⟩
          rw [hrb, hrn, hrg, hrd] at hat
          rw [hrb] at c0
          rw [hrn] at c1
          rw [hrg] at c2
          rw [hrd] at c3
          clear hrb hrn hrg hrd
          have HAT := Lib.hid hat
          have HXB := Lib.hid HR.out.bl
          have HXN := Lib.hid HR.out.no
          clear hat
          have p2 : (k : Int) < N := by omega
          have hbx : b1 < wr.heap.size := Nat.lt_of_lt_of_le hbl HR.out.bel.size
          obtain ⟨W2, hW2⟩ : ∃ W2, W2 = wr.alloc (.cells #[.int .i64 rb, .int .i64 rn, .int .i64 rg, .int .i64 rd] 53) := ⟨_, rfl⟩
          have HW2 := Lib.hid hW2
          have HB2 : Hid (Below w.heap.size w W2) := Lib.hid (by rw [hW2]; exact HR.out.bel.alloc HR.out.bel.size _)
          have HX2 : Hid (W2.heap[w1.heap.size]? = some (.cells x.cells 23 (0, 0))) := Lib.hid (by rw [hW2]; exact (Below.heap_alloc wr _ _ hltX).trans HR.out.box)
          have HR2 : Hid (W2.heap[w.heap.size]? = some (.cells StV.zero.cells 23 (0, 0))) := Lib.hid (by rw [hW2]; exact (Below.heap_alloc wr _ _ (lt_of_block HR.out.res)).trans HR.out.res)
          have HV2 : Hid (W2.heap[wr.heap.size]? = some (.cells #[.int .i64 rb, .int .i64 rn, .int .i64 rg, .int .i64 rd] 53 (0, 0))) := Lib.hid (by rw [hW2]; exact heap_alloc_new wr _)
          clear hW2
          go_upto_region 9 with fail
          rw [← HW2.out]
          clear c0 c1 c2 c3 y0 y1 y2 y3 y4 y5 y6 y7 y8
          obtain ⟨z0, z1, z2, z3⟩ := rv_four HV2.out
          rcases (by omega : rb ≠ b ∨ (rb = b ∧ rn ≠ n) ∨ (rb = b ∧ rn = n)) with h1 | ⟨h1, h2⟩ | ⟨h1, h2⟩
          · have h1' : (rb == b) = false := beq_eq_false_iff_ne.2 h1
            have H1 := Lib.hid h1
            clear h1
            have HN5 : Hid (RpRow w w1.heap.size b n R l (k + 1) x W2) := Lib.hid ⟨HB2.out, HX2.out, HR2.out, by rw [HAT.out, if_neg (fun hh => H1.out hh.1)], HXB.out, HXN.out⟩
            go_wp2_with fail
            go_roundw
            case rel => exact ⟨k + 1, x, by go_num, by omega, HN5⟩
            case measure => simp [intOf]; omega
          · have h2' : (rn == n) = false := beq_eq_false_iff_ne.2 h2
            have H2 := Lib.hid h2
            have h1s := h1.symm
            clear h2 h1
            subst h1s
            have HN5 : Hid (RpRow w w1.heap.size b n R l (k + 1) x W2) := Lib.hid ⟨HB2.out, HX2.out, HR2.out, by rw [HAT.out, if_neg (fun hh => H2.out hh.2)], HXB.out, HXN.out⟩
            go_wp2_with fail
            go_roundw
            case rel => exact ⟨k + 1, x, by go_num, by omega, HN5⟩
            case measure => simp [intOf]; omega
          · have h1s := h1.symm
            have h2s := h2.symm
            clear h1 h2
            subst h1s h2s
            have HG := Lib.hid (fun W => gradeOf_any x rg rd W)
            obtain ⟨Y, hY⟩ : ∃ Y, Y = gradeV x rg rd := ⟨_, rfl⟩
            obtain ⟨E, hE⟩ : ∃ E, E = gradeE x rg rd := ⟨_, rfl⟩
            have HY : Hid (E = 0 → Y = gradedV x rg rd) := Lib.hid (fun h => by rw [hY, gradeV_good (by rw [← hE]; exact h)])
            rw [← hY, ← hE] at HG
            have hyv : Y.v = .agg #[.int .i64 Y.bl, .int .i64 Y.no, .int .i64 Y.st, .int .i64 Y.ea, .int .i64 Y.du, .int .i64 Y.la, .int .i64 Y.ti, .int .i64 Y.lp, .int .i64 Y.bu] := rfl
            have hxv : x.v = .agg #[.int .i64 x.bl, .int .i64 x.no, .int .i64 x.st, .int .i64 x.ea, .int .i64 x.du, .int .i64 x.la, .int .i64 x.ti, .int .i64 x.lp, .int .i64 x.bu] := rfl
            rw [hxv, hyv] at HG
            rw [← hE] at HAT
            have HXB2 := Lib.hid HXB.out
            have hat := HAT.out
            rw [if_pos ⟨rfl, rfl⟩] at hat
            have HAT2 := Lib.hid hat
            clear hY hE hyv hxv hat HAT
            skip
            obtain ⟨y0, y1, y2, y3, y4, y5, y6, y7, y8⟩ := st_ninev HX2.out
            go_wp2_with fail
            refine (HG.out _).mono ?_
            rintro e6 w6 ⟨rfl, hb6⟩
            have HB6 := Lib.hid (HB2.out.trans (hb6.mono HB2.out.size))
            have HX6 := Lib.hid ((hb6.block _ (lt_of_block HX2.out)).trans HX2.out)
            have HR6 := Lib.hid ((hb6.block _ (lt_of_block HR2.out)).trans HR2.out)
            clear hb6 y0 y1 y2 y3 y4 y5 y6 y7 y8 z0 z1 z2 z3
            obtain ⟨y0, y1, y2, y3, y4, y5, y6, y7, y8⟩ := st_ninev HX6.out
            obtain ⟨f0, f1, f2, f3, f4, f5, f6, f7, f8⟩ := st_nofrost HX6.out
            go_upto_region 11 with fail
            obtain ⟨W7, hW7⟩ : ∃ W7, W7 = putSt w6 w1.heap.size Y := ⟨_, rfl⟩
            have HB7 : Hid (Below w.heap.size w W7) := Lib.hid (by rw [hW7]; exact putSt_below HB6.out _ _ HB1.out.size)
            have HX7 : Hid (W7.heap[w1.heap.size]? = some (.cells Y.cells 23 (0, 0))) := Lib.hid (by rw [hW7]; exact putSt_row HX6.out Y)
            have HR7 : Hid (W7.heap[w.heap.size]? = some (.cells StV.zero.cells 23 (0, 0))) := Lib.hid (by rw [hW7, putSt_other _ _ _ _ (by omega)]; exact HR6.out)
            unfold putSt at hW7
            rw [← hW7]
            clear hW7 y0 y1 y2 y3 y4 y5 y6 y7 y8 f0 f1 f2 f3 f4 f5 f6 f7 f8
            by_cases hE : E = 0
            case neg =>
              have hE' : (E != 0) = true := bne_iff_ne.2 hE
              have HF : Hid (R = (StV.zero, (k : Int), E)) := Lib.hid (by rw [HAT2.out, if_neg hE])
              obtain ⟨q0, q1, q2, q3, q4, q5, q6, q7, q8⟩ := st_ninev HR7.out
              obtain ⟨g0, g1, g2, g3, g4, g5, g6, g7, g8⟩ := st_nofrost HR7.out
              clear hE
              go_wp2_with fail
              refine bodyPost_ret (v := .tuple #[.agg #[.int .i64 0, .int .i64 0, .int .i64 0, .int .i64 0, .int .i64 0, .int .i64 0, .int .i64 0, .int .i64 0, .int .i64 0], .int .i64 k, .int .i64 E]) ?_ rfl ⟨by rw [HF.out]; rfl, ?_⟩
              · simp only [results, Tryd.results24]
                go_simp
              · repeat (with_reducible refine Below.setCell ?_ (by simp) _)
                exact HB7.out
            case pos =>
              have HN7 : Hid (RpRow w w1.heap.size b n R l (k + 1) Y W7) := Lib.hid ⟨HB7.out, HX7.out, HR7.out, by rw [HAT2.out, if_pos hE, HY.out hE], by rw [HY.out hE]; exact HXB.out, by rw [HY.out hE]; exact HXN.out⟩
              subst hE
              go_wp2_with fail
              go_roundw
              case rel => exact ⟨k + 1, Y, by go_num, by omega, HN7⟩
              case measure => simp [intOf]; omega
end Go.Proofs.YtnellkdiafglgaaDoor
