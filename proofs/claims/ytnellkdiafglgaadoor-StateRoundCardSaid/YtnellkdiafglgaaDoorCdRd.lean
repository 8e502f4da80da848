/- Cards: ReadState at a state's text; the law StateRound. -/
import Derived.Test.YtnellkdiafglgaaDoorCdRc
import Derived.Test.YtnellkdiafglgaaDoorCdZ
import Derived.Deep.RegionHeld3
namespace Go.Proofs.YtnellkdiafglgaaDoor
open Go.RowKit Go.Shelf Go.Joins

set_option maxRecDepth 100000 in
set_option maxHeartbeats 8000000 in
theorem readState_any (x : StV) (hE : stE x = 0) (w : World) (hp : Pow w) (hm : MaxL w) : Calls Tryd.prog 16 #[.string (textOf x)] w fun e w' => e = .returned (.tuple #[x.v, .int .i64 0]) ∧ Below w.heap.size w w' := by
  have hx := (stE_ok hE).1
  have HC := Lib.hid (fun W => checkState_any x W)
  have HS := Lib.hid (fun W hp hm => parseState_any x hx W hp hm)
  have HP := Lib.hid hp
  have HM := Lib.hid hm
  have hts := text_size hx
  have hxv : x.v = .agg #[.int .i64 x.bl, .int .i64 x.no, .int .i64 x.st, .int .i64 x.ea, .int .i64 x.du, .int .i64 x.la, .int .i64 x.ti, .int .i64 x.lp, .int .i64 x.bu] := rfl
  rw [hE] at HC
  rw [hxv] at HC HS ⊢
  generalize textOf x = TX at *
  have p0 : ¬ (2000 : Int) < (TX.size : Int) := by omega
  clear hp hm hx hE hxv
  have HB0 := Lib.hid ((Below.refl w.heap.size w).alloc (Nat.le_refl _) (.cells #[.int .i64 0, .int .i64 0, .int .i64 0, .int .i64 0, .int .i64 0, .int .i64 0, .int .i64 0, .int .i64 0, .int .i64 0] 23))
  have HR0 := Lib.hid (heap_alloc_new w (.cells #[.int .i64 0, .int .i64 0, .int .i64 0, .int .i64 0, .int .i64 0, .int .i64 0, .int .i64 0, .int .i64 0, .int .i64 0] 23))
  go_enter Tryd.func16, Tryd.ntmps16
  go_wp2_with fail
  refine (HS.out _ (HP.out.below HB0.out) (HM.out.below HB0.out)).mono ?_
  rintro e1 w1 ⟨rfl, hb1⟩
  have HB1 := Lib.hid (HB0.out.trans (hb1.mono HB0.out.size))
  have HR1 := Lib.hid ((hb1.block _ (lt_of_block HR0.out)).trans HR0.out)
  clear hb1
  have hlt1 := lt_of_block HR1.out
  go_wp2_with fail
  have HB1b := Lib.hid (HB1.out.alloc HB1.out.size (.cells #[.int .i64 x.bl, .int .i64 x.no, .int .i64 x.st, .int .i64 x.ea, .int .i64 x.du, .int .i64 x.la, .int .i64 x.ti, .int .i64 x.lp, .int .i64 x.bu] 23))
  have HR1b := Lib.hid ((Below.heap_alloc w1 (.cells #[.int .i64 x.bl, .int .i64 x.no, .int .i64 x.st, .int .i64 x.ea, .int .i64 x.du, .int .i64 x.la, .int .i64 x.ti, .int .i64 x.lp, .int .i64 x.bu] 23) _ (lt_of_block HR1.out)).trans HR1.out)
  have HX1 := Lib.hid (heap_alloc_new w1 (.cells #[.int .i64 x.bl, .int .i64 x.no, .int .i64 x.st, .int .i64 x.ea, .int .i64 x.du, .int .i64 x.la, .int .i64 x.ti, .int .i64 x.lp, .int .i64 x.bu] 23))
  refine (HC.out _).mono ?_
  rintro e2 w2 ⟨rfl, hb2⟩
  have HB2 := Lib.hid (HB1b.out.trans (hb2.mono HB1b.out.size))
  have hr2 := (hb2.block _ (lt_of_block HR1b.out)).trans HR1b.out
  have hx2 := (hb2.block _ (lt_of_block HX1.out)).trans HX1.out
  clear hb2
  obtain ⟨z0, z1, z2, z3, z4, z5, z6, z7, z8⟩ := st_nine hr2
  obtain ⟨g0, g1, g2, g3, g4, g5, g6, g7, g8⟩ := st_nofrost hr2
  obtain ⟨y0, y1, y2, y3, y4, y5, y6, y7, y8⟩ := st_nine hx2
  clear hr2 hx2
  go_wp2_with fail
  refine bodyPost_ret (v := .tuple #[.agg #[.int .i64 x.bl, .int .i64 x.no, .int .i64 x.st, .int .i64 x.ea, .int .i64 x.du, .int .i64 x.la, .int .i64 x.ti, .int .i64 x.lp, .int .i64 x.bu], .int .i64 0]) ?_ rfl ⟨rfl, ?_⟩
  · simp only [results, Tryd.results16]
    go_simp
  · repeat (with_reducible refine Below.setCell ?_ (by simp) _)
    exact HB2.out
set_option maxRecDepth 100000 in
theorem awakeCardK_any (w : World) : Calls Tryd.prog 30 #[] w fun e w' => e = .returned (.bool true) ∧ Below w.heap.size w w' := by
  have HN := Lib.hid (fun W => new_any 0 0 W)
  have e1 : stE (StV.fresh 0 0) = 2 := by decide
  have e2 : (newV 0 0).v = StV.zero.v := by unfold newV; rw [e1]; rfl
  rw [e1, e2, zero_v] at HN
  clear e1 e2
  go_enter Tryd.func30, Tryd.ntmps30
  go_wp2_with fail
  refine (HN.out _).mono ?_
  rintro e1 w1 ⟨rfl, hb1⟩
  have HB1 := Lib.hid (hb1.alloc hb1.size (.cells #[.int .i64 0, .int .i64 0, .int .i64 0, .int .i64 0, .int .i64 0, .int .i64 0, .int .i64 0, .int .i64 0, .int .i64 0] 23))
  clear hb1
  go_wp2_with fail
  go_ret
  exact ⟨rfl, HB1.out⟩
end Go.Proofs.YtnellkdiafglgaaDoor
