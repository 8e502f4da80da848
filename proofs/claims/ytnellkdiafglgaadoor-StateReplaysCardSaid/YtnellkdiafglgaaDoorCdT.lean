/- Cards: the law StateReplays. -/
import Derived.Test.YtnellkdiafglgaaDoorCdS
import Derived.Test.YtnellkdiafglgaaDoorCdM
namespace Go.Proofs.YtnellkdiafglgaaDoor
open Go.RowKit Go.Shelf

set_option maxRecDepth 100000 in
set_option maxHeartbeats 8000000 in
theorem stateReplays_any (b n : Int) (l : List RvV) (A : Option Addr) (c : Nat) (w : World) (ht : TabG w) (hl : RvVsAt w w.heap.size A l) :
    Calls Tryd.prog 6 #[.int .i64 b, .int .i64 n, .slice A l.length c] w (QuietG w (.bool true)) := by
  have H1 := Lib.hid (replay_any b n l A c w ht hl)
  have H2 := Lib.hid (fun W (hW : Below w.heap.size w W) => replayOf_any b n l A c W (hl.up hW))
  generalize replayV b n l = R at *
  obtain ⟨V, i, E⟩ := R
  have hv : V.v = .agg #[.int .i64 V.bl, .int .i64 V.no, .int .i64 V.st, .int .i64 V.ea, .int .i64 V.du, .int .i64 V.la, .int .i64 V.ti, .int .i64 V.lp, .int .i64 V.bu] := rfl
  dsimp only at H1 H2
  rw [hv] at H1 H2
  clear hv ht hl
  generalize l.length = N at *
  go_enter Tryd.func6, Tryd.ntmps6
  go_wp2_with fail
  refine H1.out.mono ?_
  rintro e1 w1 ⟨rfl, hb1⟩
  have HB1 := Lib.hid hb1
  clear hb1
  go_wp2_with fail
  have HB1b := Lib.hid (HB1.out.alloc HB1.out.size (.cells #[.int .i64 V.bl, .int .i64 V.no, .int .i64 V.st, .int .i64 V.ea, .int .i64 V.du, .int .i64 V.la, .int .i64 V.ti, .int .i64 V.lp, .int .i64 V.bu] 23))
  have HX1 := Lib.hid (heap_alloc_new w1 (.cells #[.int .i64 V.bl, .int .i64 V.no, .int .i64 V.st, .int .i64 V.ea, .int .i64 V.du, .int .i64 V.la, .int .i64 V.ti, .int .i64 V.lp, .int .i64 V.bu] 23))
  refine (H2.out _ HB1b.out).mono ?_
  rintro e2 w2 ⟨rfl, hb2⟩
  have hx2 := (hb2.block _ (lt_of_block HX1.out)).trans HX1.out
  have HB2 := Lib.hid (HB1b.out.trans (hb2.mono HB1b.out.size))
  have HB2b := Lib.hid (HB2.out.alloc HB2.out.size (.cells #[.int .i64 V.bl, .int .i64 V.no, .int .i64 V.st, .int .i64 V.ea, .int .i64 V.du, .int .i64 V.la, .int .i64 V.ti, .int .i64 V.lp, .int .i64 V.bu] 23))
  have hlt := lt_of_block hx2
  obtain ⟨y0, y1, y2, y3, y4, y5, y6, y7, y8⟩ := st_nine hx2
  clear hb2 hx2
  go_wp2_with fail
  go_ret
  exact ⟨ret_boolR (by simp), HB2b.out⟩
end Go.Proofs.YtnellkdiafglgaaDoor
