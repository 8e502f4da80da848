/- Cards: the law StateChecks. -/
import Derived.Test.YtnellkdiafglgaaDoorCdW
import Derived.Test.YtnellkdiafglgaaDoorCdM
import Derived.Deep.RegionHeld3
namespace Go.Proofs.YtnellkdiafglgaaDoor
open Go.RowKit Go.Shelf

theorem keepC {W w' : World} {a : Addr} {v : Value} (h : W.cell? a = some v) (hb : Below W.heap.size W w') : w'.cell? a = some v := (hb.cell (p := a) (World.block_lt_of_cell? W _ h)).trans h
set_option maxRecDepth 100000 in
set_option maxHeartbeats 8000000 in
theorem stateChecks_any (x : StV) (w : World) (hp : Pow w) :
    Calls Tryd.prog 3 #[x.v] w (QuietG w (.bool true)) := by
  have H1 := Lib.hid (stateText_any x)
  have H2 := Lib.hid (stateString_any x)
  have H3 := Lib.hid (fun W => new_any x.bl x.no W)
  have H4 := Lib.hid (fun W => newOf_any x.bl x.no W)
  have H5 := Lib.hid (fun W => checkState_any x W)
  have H6 := Lib.hid (fun W => stateFault_any x W)
  have HP := Lib.hid hp
  generalize textV x = TX at *
  generalize stE x = E at *
  generalize stE (StV.fresh x.bl x.no) = EN at *
  generalize newV x.bl x.no = V at *
  have hxv : x.v = .agg #[.int .i64 x.bl, .int .i64 x.no, .int .i64 x.st, .int .i64 x.ea, .int .i64 x.du, .int .i64 x.la, .int .i64 x.ti, .int .i64 x.lp, .int .i64 x.bu] := rfl
  have hvv : V.v = .agg #[.int .i64 V.bl, .int .i64 V.no, .int .i64 V.st, .int .i64 V.ea, .int .i64 V.du, .int .i64 V.la, .int .i64 V.ti, .int .i64 V.lp, .int .i64 V.bu] := rfl
  rw [hxv] at H1 H2 H5 H6 ⊢
  rw [hvv] at H3 H4
  clear hp hxv hvv
  have HB0 := Lib.hid ((Below.refl w.heap.size w).alloc (Nat.le_refl _) (.cells #[.int .i64 x.bl, .int .i64 x.no, .int .i64 x.st, .int .i64 x.ea, .int .i64 x.du, .int .i64 x.la, .int .i64 x.ti, .int .i64 x.lp, .int .i64 x.bu] 23))
  have HX0 := Lib.hid (heap_alloc_new w (.cells #[.int .i64 x.bl, .int .i64 x.no, .int .i64 x.st, .int .i64 x.ea, .int .i64 x.du, .int .i64 x.la, .int .i64 x.ti, .int .i64 x.lp, .int .i64 x.bu] 23))
  go_enter Tryd.func3, Tryd.ntmps3
  go_wp2_with fail
  refine (H1.out _ (HP.out.below HB0.out)).mono ?_
  rintro e1 w1 ⟨rfl, hb1⟩
  have HX1 := Lib.hid ((hb1.block _ (lt_of_block HX0.out)).trans HX0.out)
  have HB1 := Lib.hid (HB0.out.trans (hb1.mono HB0.out.size))
  clear hb1
  obtain ⟨y0, y1, y2, y3, y4, y5, y6, y7, y8⟩ := st_nine HX1.out
  go_wp2_with fail
  refine (H2.out _ (HP.out.below HB1.out)).mono ?_
  rintro e2 w2 ⟨rfl, hb2⟩
  have HX2 := Lib.hid ((hb2.block _ (lt_of_block HX1.out)).trans HX1.out)
  have HB2 := Lib.hid (HB1.out.trans (hb2.mono HB1.out.size))
  clear hb2 y0 y1 y2 y3 y4 y5 y6 y7 y8
  obtain ⟨y0, y1, y2, y3, y4, y5, y6, y7, y8⟩ := st_nine HX2.out
  go_wp2_with fail
  refine (H3.out _).mono ?_
  rintro e3 w3 ⟨rfl, hb3⟩
  have HX3 := Lib.hid ((hb3.block _ (lt_of_block HX2.out)).trans HX2.out)
  have HB3 := Lib.hid (HB2.out.trans (hb3.mono HB2.out.size))
  have HB3b := Lib.hid (HB3.out.alloc HB3.out.size (.cells #[.int .i64 V.bl, .int .i64 V.no, .int .i64 V.st, .int .i64 V.ea, .int .i64 V.du, .int .i64 V.la, .int .i64 V.ti, .int .i64 V.lp, .int .i64 V.bu] 23))
  have HV3 := Lib.hid (heap_alloc_new w3 (.cells #[.int .i64 V.bl, .int .i64 V.no, .int .i64 V.st, .int .i64 V.ea, .int .i64 V.du, .int .i64 V.la, .int .i64 V.ti, .int .i64 V.lp, .int .i64 V.bu] 23))
  have HX3b := Lib.hid ((Below.heap_alloc w3 (.cells #[.int .i64 V.bl, .int .i64 V.no, .int .i64 V.st, .int .i64 V.ea, .int .i64 V.du, .int .i64 V.la, .int .i64 V.ti, .int .i64 V.lp, .int .i64 V.bu] 23) _ (lt_of_block HX3.out)).trans HX3.out)
  have lt3 := lt_of_block HX3.out
  clear hb3 y0 y1 y2 y3 y4 y5 y6 y7 y8
  obtain ⟨y0, y1, y2, y3, y4, y5, y6, y7, y8⟩ := st_nine HX3.out
  go_wp2_with fail
  refine (H4.out _).mono ?_
  rintro e4 w4 ⟨rfl, hb4⟩
  have HX4 := Lib.hid ((hb4.block _ (lt_of_block HX3b.out)).trans HX3b.out)
  have HV4 := Lib.hid ((hb4.block _ (lt_of_block HV3.out)).trans HV3.out)
  have HB4 := Lib.hid (HB3b.out.trans (hb4.mono HB3b.out.size))
  have lt4 := lt_of_block HX4.out
  have lt4b := lt_of_block HV4.out
  clear hb4 y0 y1 y2 y3 y4 y5 y6 y7 y8
  obtain ⟨W5, hW5⟩ : ∃ W5, W5 = w4.alloc (.cells #[.int .i64 V.bl, .int .i64 V.no, .int .i64 V.st, .int .i64 V.ea, .int .i64 V.du, .int .i64 V.la, .int .i64 V.ti, .int .i64 V.lp, .int .i64 V.bu] 23) := ⟨_, rfl⟩
  have HW5 := Lib.hid hW5
  have HB5 : Hid (Below w.heap.size w W5) := Lib.hid (by rw [hW5]; exact HB4.out.alloc HB4.out.size _)
  have hx5 : W5.heap[w.heap.size]? = some (.cells #[.int .i64 x.bl, .int .i64 x.no, .int .i64 x.st, .int .i64 x.ea, .int .i64 x.du, .int .i64 x.la, .int .i64 x.ti, .int .i64 x.lp, .int .i64 x.bu] 23 (0, 0)) := by rw [hW5]; exact (Below.heap_alloc _ _ _ lt4).trans HX4.out
  have hv5 : W5.heap[w3.heap.size]? = some (.cells #[.int .i64 V.bl, .int .i64 V.no, .int .i64 V.st, .int .i64 V.ea, .int .i64 V.du, .int .i64 V.la, .int .i64 V.ti, .int .i64 V.lp, .int .i64 V.bu] 23 (0, 0)) := by rw [hW5]; exact (Below.heap_alloc _ _ _ lt4b).trans HV4.out
  have hu5 : W5.heap[w4.heap.size]? = some (.cells #[.int .i64 V.bl, .int .i64 V.no, .int .i64 V.st, .int .i64 V.ea, .int .i64 V.du, .int .i64 V.la, .int .i64 V.ti, .int .i64 V.lp, .int .i64 V.bu] 23 (0, 0)) := by rw [hW5]; exact heap_alloc_new w4 _
  obtain ⟨y0, y1, y2, y3, y4, y5, y6, y7, y8⟩ := st_nine hx5
  obtain ⟨z0, z1, z2, z3, z4, z5, z6, z7, z8⟩ := st_nine hv5
  obtain ⟨q0, q1, q2, q3, q4, q5, q6, q7, q8⟩ := st_nine hu5
  clear hW5 hx5 hv5 hu5
  go_upto_region 5 with fail
  rw [← HW5.out]
  go_region_held3 (fun W => W.cell? ⟨w.heap.size, 0, none⟩ = some (.int .i64 x.bl) ∧ W.cell? ⟨w.heap.size, 1, none⟩ = some (.int .i64 x.no) ∧ W.cell? ⟨w.heap.size, 2, none⟩ = some (.int .i64 x.st) ∧ W.cell? ⟨w.heap.size, 3, none⟩ = some (.int .i64 x.ea) ∧ W.cell? ⟨w.heap.size, 4, none⟩ = some (.int .i64 x.du) ∧ W.cell? ⟨w.heap.size, 5, none⟩ = some (.int .i64 x.la) ∧ W.cell? ⟨w.heap.size, 6, none⟩ = some (.int .i64 x.ti) ∧ W.cell? ⟨w.heap.size, 7, none⟩ = some (.int .i64 x.lp) ∧ W.cell? ⟨w.heap.size, 8, none⟩ = some (.int .i64 x.bu) ∧ W.cell? ⟨w3.heap.size, 0, none⟩ = some (.int .i64 V.bl) ∧ W.cell? ⟨w3.heap.size, 1, none⟩ = some (.int .i64 V.no) ∧ W.cell? ⟨w3.heap.size, 2, none⟩ = some (.int .i64 V.st) ∧ W.cell? ⟨w3.heap.size, 3, none⟩ = some (.int .i64 V.ea) ∧ W.cell? ⟨w3.heap.size, 4, none⟩ = some (.int .i64 V.du) ∧ W.cell? ⟨w3.heap.size, 5, none⟩ = some (.int .i64 V.la) ∧ W.cell? ⟨w3.heap.size, 6, none⟩ = some (.int .i64 V.ti) ∧ W.cell? ⟨w3.heap.size, 7, none⟩ = some (.int .i64 V.lp) ∧ W.cell? ⟨w3.heap.size, 8, none⟩ = some (.int .i64 V.bu) ∧ W.cell? ⟨w4.heap.size, 0, none⟩ = some (.int .i64 V.bl) ∧ W.cell? ⟨w4.heap.size, 1, none⟩ = some (.int .i64 V.no) ∧ W.cell? ⟨w4.heap.size, 2, none⟩ = some (.int .i64 V.st) ∧ W.cell? ⟨w4.heap.size, 3, none⟩ = some (.int .i64 V.ea) ∧ W.cell? ⟨w4.heap.size, 4, none⟩ = some (.int .i64 V.du) ∧ W.cell? ⟨w4.heap.size, 5, none⟩ = some (.int .i64 V.la) ∧ W.cell? ⟨w4.heap.size, 6, none⟩ = some (.int .i64 V.ti) ∧ W.cell? ⟨w4.heap.size, 7, none⟩ = some (.int .i64 V.lp) ∧ W.cell? ⟨w4.heap.size, 8, none⟩ = some (.int .i64 V.bu))
    (first | go_keep | (go_split_ands; refine ⟨?_, ?_, ?_, ?_, ?_, ?_, ?_, ?_, ?_, ?_, ?_, ?_, ?_, ?_, ?_, ?_, ?_, ?_, ?_, ?_, ?_, ?_, ?_, ?_, ?_, ?_, ?_⟩ <;> first | exact keepC (by assumption) hb7 | exact keepC (by assumption) hb6))
    (first
      | (go_at_call 14; refine (H5.out _).mono ?_; rintro e6 w6 ⟨rfl, hb6⟩)
      | (go_at_call 15; refine (H6.out _).mono ?_; rintro e7 w7 ⟨rfl, hb7⟩))
  have HB7 : Hid (Below w.heap.size w w7) := Lib.hid (HB5.out.trans (((Below.refl W5.heap.size W5).drew.trans (hb6.trans (hb7.mono hb6.size))).mono HB5.out.size))
  clear hb6 hb7
  go_wp2_with fail
  go_ret
  exact ⟨rfl, HB7.out⟩
end Go.Proofs.YtnellkdiafglgaaDoor
