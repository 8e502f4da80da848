/- Cards: two lists of numbers compared; the law StateGrades. -/
import Derived.Test.YtnellkdiafglgaaDoorCdL
import Derived.WalkSmall
import Derived.Test.YtnellkdiafglgaaDoorShelf
import Derived.BigQuiet
import Derived.Deep.QuietTactic
namespace Go.Proofs.YtnellkdiafglgaaDoor
open Go.RowKit Go.Shelf

/-- A list of numbers of one's own, to be read. -/
theorem own_ints {w : World} {B : Nat} {v : Value} {l : List Int} (h : w.ownsRow B 3 1 v l.length (ints l)) :
    (v = .slice none 0 0 ∧ l = []) ∨ ∃ g cap, v = .slice (some ⟨g, 0, none⟩) l.length cap ∧ B ≤ g ∧ ∀ j, j < l.length → w.cell? ⟨g, 0 + j, none⟩ = some (.int .i64 (l.getD j 0)) := by
  rcases h.2 with ⟨h1, h2⟩ | ⟨g, cap, cur, hv, hg, hb, _, _, _, ht⟩
  · exact .inl ⟨h1, List.eq_nil_of_length_eq_zero h2⟩
  · refine .inr ⟨g, cap, hv, hg, fun j hj => ?_⟩
    rw [cell_of_row w g (0 + j) _ _ _ hb, Nat.zero_add]
    have h1 : (cur.toList.take (l.length * 1))[j]? = cur[j]? := by
      rw [List.getElem?_take, if_pos (by omega)]
      simp
    rw [← h1, ht]
    unfold ints
    rw [List.getElem?_map, List.getD_eq_getElem?_getD, List.getElem?_eq_getElem hj]
    rfl
/-- Two lists of the same numbers are equal. -/
theorem equal_ints (l : List Int) (B1 B2 : Nat) (v1 v2 : Value) (w : World) (h1 : w.ownsRow B1 3 1 v1 l.length (ints l)) (h2 : w.ownsRow B2 3 1 v2 l.length (ints l)) (hl : l.length ≤ 1000000) :
    Calls Tryd.prog 22 #[v1, v2] w fun e w' => e = .returned (.bool true) ∧ ∃ q, w' = w.drewN q := by
  rcases own_ints h1 with ⟨rfl, rfl⟩ | ⟨g1, c1, rfl, -, k1⟩
  · rcases own_ints h2 with ⟨rfl, -⟩ | ⟨g2, c2, rfl, -, k2⟩
    · refine (Tryd.slices_Equal_int_empty none none 0 0 0 w (by omega)).mono ?_
      rintro e w' ⟨rfl, rfl⟩
      exact ⟨rfl, 0, rfl⟩
    · refine (Tryd.slices_Equal_int_empty none (some ⟨g2, 0, none⟩) 0 0 c2 w (by omega)).mono ?_
      rintro e w' ⟨rfl, rfl⟩
      exact ⟨rfl, 0, rfl⟩
  · rcases own_ints h2 with ⟨rfl, rfl⟩ | ⟨g2, c2, rfl, -, k2⟩
    · refine (Tryd.slices_Equal_int_empty (some ⟨g1, 0, none⟩) none c1 0 0 w (by omega)).mono ?_
      rintro e w' ⟨rfl, rfl⟩
      exact ⟨rfl, 0, rfl⟩
    · refine (Tryd.slices_Equal_int g1 0 l.length c1 g2 0 l.length c2 l l w (by omega) (by omega) (by omega) (by omega) k1 k2).mono ?_
      rintro e w' ⟨rfl, q, rfl⟩
      exact ⟨by simp, q, rfl⟩
theorem chL_few (x : StV) (d : Int) : (chL x d).length ≤ 4 := by
  unfold chL
  split
  · rw [duesL_len]; omega
  · simp
/-- What a law gives. -/
def QuietG (w : World) (v : Value) (e : Ending) (w' : World) : Prop := e = .returned v ∧ Below w.heap.size w w'
set_option maxRecDepth 100000 in
set_option maxHeartbeats 8000000 in
theorem stateGrades_any (x : StV) (g d : Int) (w : World) (ht : TabG w) :
    Calls Tryd.prog 5 #[x.v, .int .i64 g, .int .i64 d] w (QuietG w (.bool true)) := by
  have H1 := Lib.hid (fun W hW => grade_any x g d W hW)
  have H2 := Lib.hid (fun W => gradeOf_any x g d W)
  have H3 := Lib.hid (fun W hW => chances_any x d W hW)
  have H4 := Lib.hid (fun W => chancesOf_any x d W)
  have HL := Lib.hid (chL_few x d)
  have HT := Lib.hid ht
  generalize chL x d = CL at *
  generalize chE x d = CE at *
  generalize gradeE x g d = GE at *
  generalize gradeV x g d = V at *
  clear ht
  obtain ⟨b, n, s, ea, du, la, ti, lp, bu⟩ := x
  unfold StV.v StV.cells at *
  dsimp only at *
  have HB0 := Lib.hid ((Below.refl w.heap.size w).alloc (Nat.le_refl _) (.cells #[.int .i64 b, .int .i64 n, .int .i64 s, .int .i64 ea, .int .i64 du, .int .i64 la, .int .i64 ti, .int .i64 lp, .int .i64 bu] 23))
  go_enter Tryd.func5, Tryd.ntmps5
  go_wp2_with fail
  refine (H1.out _ (HT.out.below HB0.out)).mono ?_
  rintro e1 w1 ⟨rfl, hb1⟩
  have HX1 : Hid (w1.heap[w.heap.size]? = some (.cells #[.int .i64 b, .int .i64 n, .int .i64 s, .int .i64 ea, .int .i64 du, .int .i64 la, .int .i64 ti, .int .i64 lp, .int .i64 bu] 23 (0, 0))) := Lib.hid ((hb1.block _ (by simp)).trans (heap_alloc_new w _))
  have HB1 := Lib.hid (HB0.out.trans (hb1.mono HB0.out.size))
  clear hb1
  obtain ⟨y0, y1, y2, y3, y4, y5, y6, y7, y8⟩ := st_nine HX1.out
  have lt1 := lt_of_block HX1.out
  have hz1 := HB1.out.size
  go_wp2_with fail
  -- the first state lies in a block of its own
  have HB1b := Lib.hid (HB1.out.alloc hz1 (.cells #[.int .i64 V.bl, .int .i64 V.no, .int .i64 V.st, .int .i64 V.ea, .int .i64 V.du, .int .i64 V.la, .int .i64 V.ti, .int .i64 V.lp, .int .i64 V.bu] 23))
  refine (H2.out _).mono ?_
  rintro e2 w2 ⟨rfl, hb2⟩
  have HX2 : Hid (w2.heap[w.heap.size]? = some (.cells #[.int .i64 b, .int .i64 n, .int .i64 s, .int .i64 ea, .int .i64 du, .int .i64 la, .int .i64 ti, .int .i64 lp, .int .i64 bu] 23 (0, 0))) := Lib.hid ((hb2.block _ (by simp; omega)).trans ((Below.heap_alloc _ _ _ lt1).trans HX1.out))
  have HY2 : Hid (w2.heap[w1.heap.size]? = some (.cells #[.int .i64 V.bl, .int .i64 V.no, .int .i64 V.st, .int .i64 V.ea, .int .i64 V.du, .int .i64 V.la, .int .i64 V.ti, .int .i64 V.lp, .int .i64 V.bu] 23 (0, 0))) := Lib.hid ((hb2.block _ (by simp)).trans (heap_alloc_new w1 _))
  have HB2 := Lib.hid (HB1b.out.trans (hb2.mono HB1b.out.size))
  clear hb2 y0 y1 y2 y3 y4 y5 y6 y7 y8
  obtain ⟨y0, y1, y2, y3, y4, y5, y6, y7, y8⟩ := st_nine HX2.out
  have lt2 := lt_of_block HY2.out
  have hz2 := HB2.out.size
  have lt2b := lt_of_block HX2.out
  go_wp2_with fail
  have HB2b := Lib.hid (HB2.out.alloc hz2 (.cells #[.int .i64 V.bl, .int .i64 V.no, .int .i64 V.st, .int .i64 V.ea, .int .i64 V.du, .int .i64 V.la, .int .i64 V.ti, .int .i64 V.lp, .int .i64 V.bu] 23))
  refine (H3.out _ (HT.out.below HB2b.out)).mono ?_
  rintro e3 w3 ⟨v3, rfl, ho3, hb3⟩
  have HX3 : Hid (w3.heap[w.heap.size]? = some (.cells #[.int .i64 b, .int .i64 n, .int .i64 s, .int .i64 ea, .int .i64 du, .int .i64 la, .int .i64 ti, .int .i64 lp, .int .i64 bu] 23 (0, 0))) := Lib.hid ((hb3.block _ (by simp; omega)).trans ((Below.heap_alloc _ _ _ (by omega)).trans HX2.out))
  have HY3 : Hid (w3.heap[w1.heap.size]? = some (.cells #[.int .i64 V.bl, .int .i64 V.no, .int .i64 V.st, .int .i64 V.ea, .int .i64 V.du, .int .i64 V.la, .int .i64 V.ti, .int .i64 V.lp, .int .i64 V.bu] 23 (0, 0))) := Lib.hid ((hb3.block _ (by simp; omega)).trans ((Below.heap_alloc _ _ _ (by omega)).trans HY2.out))
  have HZ3 : Hid (w3.heap[w2.heap.size]? = some (.cells #[.int .i64 V.bl, .int .i64 V.no, .int .i64 V.st, .int .i64 V.ea, .int .i64 V.du, .int .i64 V.la, .int .i64 V.ti, .int .i64 V.lp, .int .i64 V.bu] 23 (0, 0))) := Lib.hid ((hb3.block _ (by simp)).trans (heap_alloc_new w2 _))
  have HB3 := Lib.hid (HB2b.out.trans (hb3.mono HB2b.out.size))
  have HO3 := Lib.hid ho3
  clear hb3 ho3 y0 y1 y2 y3 y4 y5 y6 y7 y8
  obtain ⟨y0, y1, y2, y3, y4, y5, y6, y7, y8⟩ := st_nine HX3.out
  go_wp2_with fail
  refine (H4.out _).mono ?_
  rintro e4 w4 ⟨v4, rfl, ho4, hb4⟩
  have HY4 := (hb4.block _ (lt_of_block HY3.out)).trans HY3.out
  have HZ4 := (hb4.block _ (lt_of_block HZ3.out)).trans HZ3.out
  have HB4 := Lib.hid (HB3.out.trans (hb4.mono HB3.out.size))
  have HE := Lib.hid (equal_ints CL _ _ v3 v4 w4 (own_below HO3.out hb4) ho4 (by have := HL.out; omega))
  clear hb4 ho4 y0 y1 y2 y3 y4 y5 y6 y7 y8
  obtain ⟨y0, y1, y2, y3, y4, y5, y6, y7, y8⟩ := st_nine HY4
  obtain ⟨z0, z1, z2, z3, z4, z5, z6, z7, z8⟩ := st_nine HZ4
  clear HY4 HZ4
  go_wp2_with fail
  refine HE.out.mono ?_
  rintro e5 w5 ⟨rfl, q, rfl⟩
  have HB5 : Hid (Below w.heap.size w (w4.drewN q)) := Lib.hid (below_drewN HB4.out q)
  generalize w4.drewN q = w5 at *
  go_wp2_with fail
  go_ret
  exact ⟨rfl, HB5.out⟩
end Go.Proofs.YtnellkdiafglgaaDoor
