/- Cards: the law CardGrades. -/
import Derived.Test.YtnellkdiafglgaaDoorCdCe
namespace Go.Proofs.YtnellkdiafglgaaDoor
open Go.RowKit Go.Shelf Go.Joins

theorem gaL_few (l : List StV) (p g d : Int) : (gaL l p g d).length ≤ 1000000 := by
  unfold gaL
  split
  · rename_i h
    unfold gaE at h
    split at h
    · exact absurd h ‹_›
    · rename_i hc
      have := statesE_few (caE_ok (by omega : caE l p = 0)).1
      rw [List.length_set]
      omega
  · simp
theorem buL_few (l : List StV) (p d : Int) : (buL l p d).length ≤ 1000000 := by
  unfold buL
  split
  · rename_i h
    unfold buE at h
    split at h
    · exact absurd h ‹_›
    · rename_i hc
      have := statesE_few (caE_ok (by omega : caE l p = 0)).1
      rw [List.length_set]
      omega
  · simp
set_option maxRecDepth 100000 in
set_option maxHeartbeats 8000000 in
theorem cardGrades_any (l : List StV) (A : Option Addr) (c : Nat) (p g d : Int) (w : World) (ht : TabG w) (hl : StVsAt w w.heap.size A l) :
    Calls Tryd.prog 7 #[.slice A l.length c, .int .i64 p, .int .i64 g, .int .i64 d] w (QuietG w (.bool true)) := by
  have H1 := Lib.hid (gradeAt_any l A c p g d w ht hl)
  have H2 := Lib.hid (fun W (hW : Below w.heap.size w W) => gradeAtOf_any l A c p g d W (hl.up hW))
  have H3 := Lib.hid (fun W (hW : Below w.heap.size w W) => bury_any l A c p d W (hl.up hW))
  have H4 := Lib.hid (fun W (hW : Below w.heap.size w W) => buryOf_any l A c p d W (hl.up hW))
  have F1 := Lib.hid (gaL_few l p g d)
  have F2 := Lib.hid (buL_few l p d)
  generalize gaL l p g d = L1 at *
  generalize gaE l p g d = E1 at *
  generalize buL l p d = L2 at *
  generalize buE l p d = E2 at *
  generalize l.length = N at *
  clear ht hl
  go_enter Tryd.func7, Tryd.ntmps7
  go_wp2_with fail
  refine H1.out.mono ?_
  rintro e1 w1 ⟨A1, c1, rfl, s1, hb1⟩
  have HB1 := Lib.hid hb1
  have HS1 := Lib.hid s1
  clear hb1 s1
  go_wp2_with fail
  refine (H2.out _ HB1.out).mono ?_
  rintro e2 w2 ⟨A2, c2, rfl, s2, hb2⟩
  have HB2 := Lib.hid (HB1.out.trans (hb2.mono HB1.out.size))
  have HS1b := Lib.hid (HS1.out.up hb2)
  have HS2 := Lib.hid s2
  clear hb2 s2 HS1
  go_wp2_with fail
  refine (H3.out _ HB2.out).mono ?_
  rintro e3 w3 ⟨A3, c3, rfl, s3, hb3⟩
  have HB3 := Lib.hid (HB2.out.trans (hb3.mono HB2.out.size))
  have HS1c := Lib.hid (HS1b.out.up hb3)
  have HS2b := Lib.hid (HS2.out.up hb3)
  have HS3 := Lib.hid s3
  clear hb3 s3 HS1b HS2
  go_wp2_with fail
  refine (H4.out _ HB3.out).mono ?_
  rintro e4 w4 ⟨A4, c4, rfl, s4, hb4⟩
  have HB4 := Lib.hid (HB3.out.trans (hb4.mono HB3.out.size))
  have HS1d := Lib.hid (HS1c.out.up hb4)
  have HS2c := Lib.hid (HS2b.out.up hb4)
  have HS3b := Lib.hid (HS3.out.up hb4)
  have HS4 := Lib.hid s4
  clear hb4 s4 HS1c HS2b HS3
  have HQ1 := Lib.hid (statesEqual_any L1 A1 A2 c1 c2 w4 F1.out HS1d.out HS2c.out)
  have HQ2 := Lib.hid (fun W (hW : Below w4.heap.size w4 W) => statesEqual_any L2 A3 A4 c3 c4 W F2.out (HS3b.out.up hW) (HS4.out.up hW))
  generalize L1.length = N1 at *
  generalize L2.length = N2 at *
  clear HS1d HS2c HS3b HS4
  go_wp2_with fail
  refine HQ1.out.mono ?_
  rintro e5 w5 ⟨rfl, hb5⟩
  have HB5 := Lib.hid (HB4.out.trans (hb5.mono HB4.out.size))
  have HB45 := Lib.hid hb5
  clear hb5
  go_wp2_with fail
  refine (HQ2.out _ HB45.out).mono ?_
  rintro e6 w6 ⟨rfl, hb6⟩
  have HB6 := Lib.hid (HB5.out.trans (hb6.mono HB5.out.size))
  clear hb6
  go_wp2_with fail
  go_ret
  exact ⟨rfl, HB6.out⟩
end Go.Proofs.YtnellkdiafglgaaDoor
