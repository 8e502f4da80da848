/- Cards: parseState at a state's text. -/
import Derived.Test.YtnellkdiafglgaaDoorCdRb
namespace Go.Proofs.YtnellkdiafglgaaDoor
open Go.RowKit Go.Shelf Go.Joins

def MaxL (w : World) : Prop := ∃ m, w.cell? ⟨3, 0, none⟩ = some (.int .i64 m)
theorem MaxL.below {w w' : World} (h : MaxL w) (hb : Below w.heap.size w w') : MaxL w' := by
  obtain ⟨m, hm⟩ := h
  exact ⟨m, (hb.cell (p := ⟨3, 0, none⟩) (World.block_lt_of_cell? w _ hm)).trans hm⟩
/-- The state with its first k fields laid. -/
def partC (x : StV) (k : Nat) : Array Value := (((fldL x).take k ++ List.replicate (9 - k) 0).map (Value.int .i64)).toArray
theorem partC_zero (x : StV) : partC x 0 = #[.int .i64 0, .int .i64 0, .int .i64 0, .int .i64 0, .int .i64 0, .int .i64 0, .int .i64 0, .int .i64 0, .int .i64 0] := rfl
theorem partC_nine (x : StV) : partC x 9 = #[.int .i64 x.bl, .int .i64 x.no, .int .i64 x.st, .int .i64 x.ea, .int .i64 x.du, .int .i64 x.la, .int .i64 x.ti, .int .i64 x.lp, .int .i64 x.bu] := rfl
theorem partC_put (x : StV) (k : Nat) (h : k < 9) : (partC x k).setIfInBounds k (.int .i64 ((fldL x).getD k 0)) = partC x (k + 1) := by
  rcases (by omega : k = 0 ∨ k = 1 ∨ k = 2 ∨ k = 3 ∨ k = 4 ∨ k = 5 ∨ k = 6 ∨ k = 7 ∨ k = 8) with rfl | rfl | rfl | rfl | rfl | rfl | rfl | rfl | rfl <;> rfl
theorem partC_at (x : StV) (k : Nat) (h : k < 9) : (partC x k)[k]? = some (.int .i64 0) := by
  rcases (by omega : k = 0 ∨ k = 1 ∨ k = 2 ∨ k = 3 ∨ k = 4 ∨ k = 5 ∨ k = 6 ∨ k = 7 ∨ k = 8) with rfl | rfl | rfl | rfl | rfl | rfl | rfl | rfl | rfl <;> rfl
/-- The pointers to the fields. -/
def ptrC (X : Nat) : Array Value := #[.pointer (some ⟨X, 0, none⟩), .pointer (some ⟨X, 1, none⟩), .pointer (some ⟨X, 2, none⟩), .pointer (some ⟨X, 3, none⟩), .pointer (some ⟨X, 4, none⟩), .pointer (some ⟨X, 5, none⟩), .pointer (some ⟨X, 6, none⟩), .pointer (some ⟨X, 7, none⟩), .pointer (some ⟨X, 8, none⟩)]
theorem ptrC_at (X k : Nat) (h : k < 9) : (ptrC X)[k]? = some (.pointer (some ⟨X, k, none⟩)) := by
  rcases (by omega : k = 0 ∨ k = 1 ∨ k = 2 ∨ k = 3 ∨ k = 4 ∨ k = 5 ∨ k = 6 ∨ k = 7 ∨ k = 8) with rfl | rfl | rfl | rfl | rfl | rfl | rfl | rfl | rfl <;> rfl
def wordC (x : StV) : Array Value := ((wordsL x).map Value.string).toArray
theorem wordC_at (x : StV) (k : Nat) (h : k < 9) : (wordC x)[k]? = some (.string (wordOf ((fldL x).getD k 0))) := by
  rcases (by omega : k = 0 ∨ k = 1 ∨ k = 2 ∨ k = 3 ∨ k = 4 ∨ k = 5 ∨ k = 6 ∨ k = 7 ∨ k = 8) with rfl | rfl | rfl | rfl | rfl | rfl | rfl | rfl | rfl <;> rfl
/-- The rounds so far. -/
structure PsRow (w : World) (x : StV) (R X S A k : Nat) (wr : World) : Prop where
  bel : Below w.heap.size w wr
  res : wr.heap[R]? = some (.cells #[.int .i64 0, .int .i64 0, .int .i64 0, .int .i64 0, .int .i64 0, .int .i64 0, .int .i64 0, .int .i64 0, .int .i64 0] 23 (0, 0))
  box : wr.heap[X]? = some (.cells (partC x k) 23 (0, 0))
  wrd : wr.heap[S]? = some (.cells (wordC x) 9 (0, 0))
  ptr : wr.heap[A]? = some (.cells (ptrC X) 57 (0, 0))
theorem text_size {x : StV} (h : inRng x) : (textOf x).size ≤ 1000 := text_len h
set_option maxRecDepth 100000 in
set_option maxHeartbeats 8000000 in
theorem parseState_any (x : StV) (hx : inRng x) (w : World) (hp : Pow w) (hm : MaxL w) : Calls Tryd.prog 43 #[.string (textOf x)] w fun e w' => e = .returned (.tuple #[x.v, .bool true]) ∧ Below w.heap.size w w' := by
  have HS := Lib.hid (fun (W : World) (h : MaxL W) => by
    obtain ⟨m, hm⟩ := h
    have := Tryd.strings_Split (textOf x) ⟨#[32]⟩ m W (by have := text_size hx; omega) hm (by decide)
    rw [text_count, text_split] at this
    exact this)
  have HF := Lib.hid (fun k => fld_bd hx k)
  have HP := Lib.hid hp
  have HM := Lib.hid hm
  obtain ⟨TX, hTX⟩ : ∃ TX, TX = textOf x := ⟨_, rfl⟩
  rw [← hTX] at HS ⊢
  clear hTX hp hm hx
  go_enter Tryd.func43, Tryd.ntmps43
  go_upto_region 2 with fail
  obtain ⟨W2, hW2⟩ : ∃ W2, W2 = (w.alloc (.cells #[.int .i64 0, .int .i64 0, .int .i64 0, .int .i64 0, .int .i64 0, .int .i64 0, .int .i64 0, .int .i64 0, .int .i64 0] 23)).alloc (.cells #[.int .i64 0, .int .i64 0, .int .i64 0, .int .i64 0, .int .i64 0, .int .i64 0, .int .i64 0, .int .i64 0, .int .i64 0] 23) := ⟨_, rfl⟩
  have HX : ∃ X, X = w.heap.size + 1 := ⟨_, rfl⟩
  obtain ⟨X, hX⟩ := HX
  have HB2 : Hid (Below w.heap.size w W2) := Lib.hid (by rw [hW2]; exact ((Below.refl w.heap.size w).alloc (Nat.le_refl _) _).alloc (by simp) _)
  have HR2 : Hid (W2.heap[w.heap.size]? = some (.cells #[.int .i64 0, .int .i64 0, .int .i64 0, .int .i64 0, .int .i64 0, .int .i64 0, .int .i64 0, .int .i64 0, .int .i64 0] 23 (0, 0))) := Lib.hid (by rw [hW2]; exact (Below.heap_alloc _ _ _ (by simp)).trans (heap_alloc_new w _))
  have HX2 : Hid (W2.heap[X]? = some (.cells #[.int .i64 0, .int .i64 0, .int .i64 0, .int .i64 0, .int .i64 0, .int .i64 0, .int .i64 0, .int .i64 0, .int .i64 0] 23 (0, 0))) := Lib.hid (by rw [hW2, hX]; have h := heap_alloc_new (w.alloc (.cells #[.int .i64 0, .int .i64 0, .int .i64 0, .int .i64 0, .int .i64 0, .int .i64 0, .int .i64 0, .int .i64 0, .int .i64 0] 23)) (.cells #[.int .i64 0, .int .i64 0, .int .i64 0, .int .i64 0, .int .i64 0, .int .i64 0, .int .i64 0, .int .i64 0, .int .i64 0] 23); simpa using h)
  have hxw : w.heap.size < X := by omega
  rw [← hW2, ← hX]
  clear hW2 hX
  have HS2 := Lib.hid (HS.out W2 (HM.out.below HB2.out))
  have hxl := lt_of_block HX2.out
  have hrl := lt_of_block HR2.out
  have HW3 := Lib.hid (heap_alloc_new W2 (.cells (wordC x) 9))
  have HR3 := Lib.hid ((Below.heap_alloc W2 (.cells (wordC x) 9) _ hrl).trans HR2.out)
  have HX3 := Lib.hid ((Below.heap_alloc W2 (.cells (wordC x) 9) _ hxl).trans HX2.out)
  have HB3 := Lib.hid (HB2.out.alloc HB2.out.size (.cells (wordC x) 9))
  have hwc : (List.map Value.string (wordsL x)).toArray = wordC x := rfl
  rw [hwc] at HS2
  clear hwc HS
  obtain ⟨WC, hWC⟩ : ∃ WC, WC = wordC x := ⟨_, rfl⟩
  have HWC := Lib.hid hWC
  rw [← hWC] at HS2 HW3 HR3 HX3 HB3
  clear hWC
  have HS9 : Hid (Calls Tryd.prog 44 #[.string TX, .string ⟨#[32]⟩] W2 fun e w' => e = .returned (.slice (some ⟨W2.heap.size, 0, none⟩) 9 9) ∧ w' = W2.alloc (.cells WC 9)) := HS2
  clear HS2
  have hS2 : ∃ S, S = W2.heap.size := ⟨_, rfl⟩
  obtain ⟨S, hS⟩ := hS2
  rw [← hS] at HS9 HW3
  obtain ⟨W3, hW3⟩ : ∃ W3, W3 = W2.alloc (.cells WC 9) := ⟨_, rfl⟩
  rw [← hW3] at HS9 HW3 HR3 HX3 HB3
  clear hW3
  go_wp2_with fail
  refine HS9.out.mono ?_
  rintro e3 w3 ⟨rfl, rfl⟩
  go_wp2_with fail
  refine (fieldsOf_any X w3 (lt_of_block HX3.out)).mono ?_
  rintro e4 w4 ⟨rfl, hb4⟩
  have HR4 := Lib.hid ((hb4.block _ (lt_of_block HR3.out)).trans HR3.out)
  have HX4 := Lib.hid ((hb4.block _ (lt_of_block HX3.out)).trans HX3.out)
  have HW4 := Lib.hid ((hb4.block _ (lt_of_block HW3.out)).trans HW3.out)
  have HB4 := Lib.hid (HB3.out.trans (hb4.mono HB3.out.size))
  clear hb4 HR3 HX3 HW3 HB3
  go_upto_region 5 with fail
  obtain ⟨W5, hW5⟩ : ∃ W5, W5 = w4.alloc (.cells (ptrC X) 57) := ⟨_, rfl⟩
  have hpc : ptrC X = #[.pointer (some ⟨X, 0, none⟩), .pointer (some ⟨X, 1, none⟩), .pointer (some ⟨X, 2, none⟩), .pointer (some ⟨X, 3, none⟩), .pointer (some ⟨X, 4, none⟩), .pointer (some ⟨X, 5, none⟩), .pointer (some ⟨X, 6, none⟩), .pointer (some ⟨X, 7, none⟩), .pointer (some ⟨X, 8, none⟩)] := rfl
  have HST : Hid (PsRow w x w.heap.size X W2.heap.size w4.heap.size 0 W5) := Lib.hid (by
    rw [hW5]
    exact ⟨HB4.out.alloc HB4.out.size _, (Below.heap_alloc _ _ _ (lt_of_block HR4.out)).trans HR4.out, (Below.heap_alloc _ _ _ (lt_of_block HX4.out)).trans HX4.out, by rw [← HWC.out, ← hS]; exact (Below.heap_alloc _ _ _ (lt_of_block HW4.out)).trans HW4.out, heap_alloc_new w4 _⟩)
  rw [← hpc, ← hW5]
  have hx4 := lt_of_block HX4.out
  clear hpc hW5 HR4 HX4 HB4 HB2 HR2 HX2
  go_wp2_with fail
  go_loopw [20] (fun i wr => ∃ k : Nat, k ≤ 9 ∧ i = .int .i64 k ∧ Hid (PsRow w x w.heap.size X W2.heap.size w4.heap.size k wr)) (fun i _ => 9 - (intOf i).toNat)
  case atStart => exact ⟨0, by omega, rfl, HST⟩
  case round =>
    clear HST
    obtain ⟨k, hk, rfl, HR⟩ := hrel
    have hlX := lt_of_block HR.out.box
    have hlR := lt_of_block HR.out.res
    by_cases h9 : k < 9
    case neg =>
      have p1 : ¬ (k : Int) < 9 := by omega
      obtain rfl : k = 9 := by omega
      have hbx := HR.out.box
      rw [partC_nine] at hbx
      obtain ⟨y0, y1, y2, y3, y4, y5, y6, y7, y8⟩ := st_nine hbx
      obtain ⟨q0, q1, q2, q3, q4, q5, q6, q7, q8⟩ := st_nine HR.out.res
      obtain ⟨g0, g1, g2, g3, g4, g5, g6, g7, g8⟩ := st_nofrost HR.out.res
      have HB := Lib.hid HR.out.bel
      clear hbx
      go_wp2_with fail
      refine bodyPost_ret (v := .tuple #[.agg #[.int .i64 x.bl, .int .i64 x.no, .int .i64 x.st, .int .i64 x.ea, .int .i64 x.du, .int .i64 x.la, .int .i64 x.ti, .int .i64 x.lp, .int .i64 x.bu], .bool true]) ?_ rfl ⟨rfl, ?_⟩
      · simp only [results, Tryd.results43]
        go_simp
      · repeat (with_reducible refine Below.setCell ?_ (by simp) _)
        exact HB.out
    case pos =>
      have p1 : (k : Int) < 9 := by omega
      have hcw : wr.cell? ⟨W2.heap.size, k, none⟩ = some (.string (wordOf ((fldL x).getD k 0))) := by rw [cell_of_row wr _ k _ _ _ HR.out.wrd]; exact wordC_at x k h9
      obtain ⟨fb0, fb1⟩ := HF.out k
      have HPUT := Lib.hid (partC_put x k h9)
      obtain ⟨y, hy⟩ : ∃ y, y = (fldL x).getD k 0 := ⟨_, rfl⟩
      rw [← hy] at hcw fb0 fb1 HPUT
      clear hy
      have HN := Lib.hid (numberOf_any y fb0 fb1 wr (HP.out.below HR.out.bel))
      clear fb0 fb1
      go_wp2_with fail
      refine HN.out.mono ?_
      rintro e6 w6 ⟨rfl, hb6⟩
      have HR6 : Hid (PsRow w x w.heap.size X W2.heap.size w4.heap.size k w6) := Lib.hid ⟨HR.out.bel.trans (hb6.mono HR.out.bel.size), (hb6.block _ (lt_of_block HR.out.res)).trans HR.out.res, (hb6.block _ (lt_of_block HR.out.box)).trans HR.out.box, (hb6.block _ (lt_of_block HR.out.wrd)).trans HR.out.wrd, (hb6.block _ (lt_of_block HR.out.ptr)).trans HR.out.ptr⟩
      clear hb6 hcw HN
      generalize wordOf y = WD at *
      have hcp : w6.cell? ⟨w4.heap.size, 0 + k, none⟩ = some (.pointer (some ⟨X, k, none⟩)) := by rw [Nat.zero_add, cell_of_row w6 _ k _ _ _ HR6.out.ptr]; exact ptrC_at X k h9
      have hcp' : w6.cell? ⟨w4.heap.size, k, none⟩ = some (.pointer (some ⟨X, k, none⟩)) := by rw [cell_of_row w6 _ k _ _ _ HR6.out.ptr]; exact ptrC_at X k h9
      have hcx : w6.cell? ⟨X, k, none⟩ = some (.int .i64 0) := by rw [cell_of_row w6 _ k _ _ _ HR6.out.box]; exact partC_at x k h9
      have hfx := frozen_of_row w6 X k _ _ HR6.out.box
      go_wp2_with fail
      go_roundw
      case rel =>
        refine ⟨k + 1, by omega, by go_num, Lib.hid ⟨HR6.out.bel.setCell (by simp; omega) _, ?_, ?_, ?_, ?_⟩⟩
        · exact (heap_setCell_other _ _ _ _ (by simp; omega)).trans HR6.out.res
        · rw [← HPUT.out]; exact heap_setCell_same w6 X k _ _ _ HR6.out.box
        · exact (heap_setCell_other _ _ _ _ (by simp; omega)).trans HR6.out.wrd
        · exact (heap_setCell_other _ _ _ _ (by simp; omega)).trans HR6.out.ptr
      case measure => simp [intOf]; omega
end Go.Proofs.YtnellkdiafglgaaDoor
