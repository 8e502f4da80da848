/- Cards: the law StateRound. -/
import Derived.Test.YtnellkdiafglgaaDoorCdRd
namespace Go.Proofs.YtnellkdiafglgaaDoor
open Go.RowKit Go.Shelf Go.Joins

set_option maxRecDepth 100000 in
set_option maxHeartbeats 8000000 in
theorem stateRound_any (x : StV) (w : World) (hp : Pow w) (hm : MaxL w) : Calls Tryd.prog 8 #[x.v] w fun e w' => e = .returned (.bool true) ∧ Below w.heap.size w w' := by
  have HT := Lib.hid (fun W hp => stateText_any x W hp)
  have HA := Lib.hid (fun W => awakeCardK_any W)
  have HP := Lib.hid hp
  have HM := Lib.hid hm
  have hxv : x.v = .agg #[.int .i64 x.bl, .int .i64 x.no, .int .i64 x.st, .int .i64 x.ea, .int .i64 x.du, .int .i64 x.la, .int .i64 x.ti, .int .i64 x.lp, .int .i64 x.bu] := rfl
  have HB0 := Lib.hid ((Below.refl w.heap.size w).alloc (Nat.le_refl _) (.cells #[.int .i64 x.bl, .int .i64 x.no, .int .i64 x.st, .int .i64 x.ea, .int .i64 x.du, .int .i64 x.la, .int .i64 x.ti, .int .i64 x.lp, .int .i64 x.bu] 23))
  have HX0 := Lib.hid (heap_alloc_new w (.cells #[.int .i64 x.bl, .int .i64 x.no, .int .i64 x.st, .int .i64 x.ea, .int .i64 x.du, .int .i64 x.la, .int .i64 x.ti, .int .i64 x.lp, .int .i64 x.bu] 23))
  clear hp hm
  by_cases hE : stE x = 0
  case' pos =>
    have HR := Lib.hid (fun W hp hm => readState_any x hE W hp hm)
    have htx : textV x = textOf x := by unfold textV; rw [if_pos hE]
    rw [htx, hE] at HT
    rw [hxv] at HR
    generalize textOf x = TX at *
    clear htx hE
  case' neg =>
    have htx : textV x = ⟨#[]⟩ := by unfold textV; rw [if_neg hE]
    rw [htx] at HT
    have hE' : (stE x != 0) = true := bne_iff_ne.2 hE
    clear htx hE
    generalize stE x = E at *
  all_goals
    rw [hxv] at HT ⊢
    clear hxv
    go_enter Tryd.func8, Tryd.ntmps8
    go_wp2_with fail
    refine (HA.out _).mono ?_
    rintro e1 w1 ⟨rfl, hb1⟩
    have HX1 := Lib.hid ((hb1.block _ (lt_of_block HX0.out)).trans HX0.out)
    have HB1 := Lib.hid (HB0.out.trans (hb1.mono HB0.out.size))
    clear hb1
    obtain ⟨y0, y1, y2, y3, y4, y5, y6, y7, y8⟩ := st_nine HX1.out
    go_wp2_with fail
    refine (HT.out _ (HP.out.below HB1.out)).mono ?_
    rintro e2 w2 ⟨rfl, hb2⟩
    have HX2 := Lib.hid ((hb2.block _ (lt_of_block HX1.out)).trans HX1.out)
    have HB2 := Lib.hid (HB1.out.trans (hb2.mono HB1.out.size))
    clear hb2 y0 y1 y2 y3 y4 y5 y6 y7 y8
    go_wp2_with fail
  · go_ret
    refine ⟨?_, HB2.out⟩
    first | rfl | (simp; done)
  · refine (HR.out _ (HP.out.below HB2.out) (HM.out.below HB2.out)).mono ?_
    rintro e3 w3 ⟨rfl, hb3⟩
    have HX3 := Lib.hid ((hb3.block _ (lt_of_block HX2.out)).trans HX2.out)
    have HB3 := Lib.hid (HB2.out.trans (hb3.mono HB2.out.size))
    clear hb3
    have hlt3 := lt_of_block HX3.out
    obtain ⟨y0, y1, y2, y3, y4, y5, y6, y7, y8⟩ := st_nine HX3.out
    have HB4 := Lib.hid (HB3.out.alloc HB3.out.size (.cells #[.int .i64 x.bl, .int .i64 x.no, .int .i64 x.st, .int .i64 x.ea, .int .i64 x.du, .int .i64 x.la, .int .i64 x.ti, .int .i64 x.lp, .int .i64 x.bu] 23))
    go_wp2_with fail
    go_ret
    refine ⟨?_, ?_⟩
    · first | rfl | (simp; done)
    · first | exact HB4.out | exact HB4.out.drew
end Go.Proofs.YtnellkdiafglgaaDoor
