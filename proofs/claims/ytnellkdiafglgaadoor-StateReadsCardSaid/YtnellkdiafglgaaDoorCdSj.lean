/- Cards: the law StateReads. -/
import Derived.Test.YtnellkdiafglgaaDoorCdSi
import Derived.Deep.RegionHeld3
namespace Go.Proofs.YtnellkdiafglgaaDoor
open Go.RowKit Go.Shelf Go.Joins

set_option maxRecDepth 100000 in
set_option maxHeartbeats 8000000 in
theorem stateReads_any (s : ByteArray) (w : World) (hp : Pow w) (hm : MaxL w) (hev : ErrV w) : Calls Tryd.prog 4 #[.string s] w fun e w' => e = .returned (.bool true) ∧ Below w.heap.size w w' := by
  have H1 := Lib.hid (readState_full s w hp hm hev)
  have H2 := Lib.hid (fun W hm hev => readStateOf_full s W hm hev)
  have HM := Lib.hid hm
  have HE := Lib.hid hev
  clear hp hm hev
  go_enter Tryd.func4, Tryd.ntmps4
  go_wp2_with fail
  refine H1.out.mono ?_
  rintro e1 w1 ⟨g1, hb1⟩
  have HG := Lib.hid g1
  obtain ⟨x, n, he, -⟩ := RdGives.same g1 g1
  subst he
  have hxv : x.v = .agg #[.int .i64 x.bl, .int .i64 x.no, .int .i64 x.st, .int .i64 x.ea, .int .i64 x.du, .int .i64 x.la, .int .i64 x.ti, .int .i64 x.lp, .int .i64 x.bu] := rfl
  have HK : Hid (∀ e, RdGives s e → e = .returned (.tuple #[.agg #[.int .i64 x.bl, .int .i64 x.no, .int .i64 x.st, .int .i64 x.ea, .int .i64 x.du, .int .i64 x.la, .int .i64 x.ti, .int .i64 x.lp, .int .i64 x.bu], .int .i64 n])) := Lib.hid (fun e g => by
    obtain ⟨y, m, h1, h2⟩ := RdGives.same g1 g
    rw [h2, ← h1, hxv])
  rw [hxv]
  clear hxv g1 HG H1
  have HB1 := Lib.hid (hb1.alloc hb1.size (.cells #[.int .i64 x.bl, .int .i64 x.no, .int .i64 x.st, .int .i64 x.ea, .int .i64 x.du, .int .i64 x.la, .int .i64 x.ti, .int .i64 x.lp, .int .i64 x.bu] 23))
  have HX1 := Lib.hid (heap_alloc_new w1 (.cells #[.int .i64 x.bl, .int .i64 x.no, .int .i64 x.st, .int .i64 x.ea, .int .i64 x.du, .int .i64 x.la, .int .i64 x.ti, .int .i64 x.lp, .int .i64 x.bu] 23))
  clear hb1
  go_wp2_with fail
  refine (H2.out _ (HM.out.below HB1.out) (HE.out.below HB1.out)).mono ?_
  rintro e2 w2 ⟨g2, hb2⟩
  have he2 := HK.out e2 g2
  subst he2
  have HX2 := Lib.hid ((hb2.block _ (lt_of_block HX1.out)).trans HX1.out)
  have HB2 := Lib.hid (HB1.out.trans (hb2.mono HB1.out.size))
  have HB3 := Lib.hid (HB2.out.alloc HB2.out.size (.cells #[.int .i64 x.bl, .int .i64 x.no, .int .i64 x.st, .int .i64 x.ea, .int .i64 x.du, .int .i64 x.la, .int .i64 x.ti, .int .i64 x.lp, .int .i64 x.bu] 23))
  have hlt := lt_of_block HX2.out
  obtain ⟨y0, y1, y2, y3, y4, y5, y6, y7, y8⟩ := st_nine HX2.out
  clear hb2 g2 HK
  go_wp2_with fail
  go_ret
  refine ⟨?_, ?_⟩
  · first | rfl | (simp; done)
  · first | exact HB3.out | exact HB3.out.drew | exact below_drewN HB3.out _
end Go.Proofs.YtnellkdiafglgaaDoor
