/- Cards: parseState at whatever string. -/
import Derived.Test.YtnellkdiafglgaaDoorCdSd
namespace Go.Proofs.YtnellkdiafglgaaDoor
open Go.RowKit Go.Shelf Go.Joins

set_option maxRecDepth 100000 in
set_option maxHeartbeats 8000000 in
theorem parseState_full (s : ByteArray) (hs : s.size ≤ 2000) (w : World) (hp : Pow w) (hm : MaxL w) (hev : ErrV w) : Calls Tryd.prog 43 #[.string s] w fun e w' => ParseGives s e ∧ Below w.heap.size w w' := by
  have hlen := wsOf_len s
  obtain ⟨n, hn⟩ : ∃ n, n = Lib.countB s ⟨#[32]⟩ := ⟨_, rfl⟩
  have HS := Lib.hid (fun (W : World) (h : MaxL W) => by
    obtain ⟨m, hm⟩ := h
    have := Tryd.strings_Split s ⟨#[32]⟩ m W (by omega) hm (by decide)
    rw [← hn] at this
    exact this)
  have hsz : Lib.countB s ⟨#[32]⟩ ≤ s.size := Lib.countB_le ⟨#[32]⟩ (by decide) s.size s (Nat.le_refl _)
  rw [← hn] at hlen hsz
  have HP := Lib.hid hp
  have HM := Lib.hid hm
  have HE := Lib.hid hev
  have HN := Lib.hid hn
  have hn1 : n ≤ 2000 := by omega
  clear hsz hn
  have HLEN := Lib.hid hlen
  clear hp hm hev hlen hs
  by_cases h8 : n = 8
  case neg =>
    have q8 : ¬ ((n : Int) + 1 = 9) := by omega
    have q8b : (((n : Int) + 1) != 9) = true := by simpa using q8
    have HG : Hid (ParseGives s (.returned (.tuple #[StV.zero.v, .bool false]))) := Lib.hid (Or.inr ⟨Or.inl (by rw [← HN.out]; exact h8), rfl⟩)
    rw [zero_v] at HG
    go_enter Tryd.func43, Tryd.ntmps43
    go_upto_region 2 with fail
    obtain ⟨W2, hW2⟩ : ∃ W2, W2 = (w.alloc (.cells #[.int .i64 0, .int .i64 0, .int .i64 0, .int .i64 0, .int .i64 0, .int .i64 0, .int .i64 0, .int .i64 0, .int .i64 0] 23)).alloc (.cells #[.int .i64 0, .int .i64 0, .int .i64 0, .int .i64 0, .int .i64 0, .int .i64 0, .int .i64 0, .int .i64 0, .int .i64 0] 23) := ⟨_, rfl⟩
    have HX : ∃ X, X = w.heap.size + 1 := ⟨_, rfl⟩
    obtain ⟨X, hX⟩ := HX
    have HB2 : Hid (Below w.heap.size w W2) := Lib.hid (by rw [hW2]; exact ((Below.refl w.heap.size w).alloc (Nat.le_refl _) _).alloc (by simp) _)
    have HR2 : Hid (W2.heap[w.heap.size]? = some (.cells #[.int .i64 0, .int .i64 0, .int .i64 0, .int .i64 0, .int .i64 0, .int .i64 0, .int .i64 0, .int .i64 0, .int .i64 0] 23 (0, 0))) := Lib.hid (by rw [hW2]; exact (Below.heap_alloc _ _ _ (by simp)).trans (heap_alloc_new w _))
    have HX2 : Hid (W2.heap[X]? = some (.cells #[.int .i64 0, .int .i64 0, .int .i64 0, .int .i64 0, .int .i64 0, .int .i64 0, .int .i64 0, .int .i64 0, .int .i64 0] 23 (0, 0))) := Lib.hid (by rw [hW2, hX]; have h := heap_alloc_new (w.alloc (.cells #[.int .i64 0, .int .i64 0, .int .i64 0, .int .i64 0, .int .i64 0, .int .i64 0, .int .i64 0, .int .i64 0, .int .i64 0] 23)) (.cells #[.int .i64 0, .int .i64 0, .int .i64 0, .int .i64 0, .int .i64 0, .int .i64 0, .int .i64 0, .int .i64 0, .int .i64 0] 23); simpa using h)
    have hxw : w.heap.size < X := by omega
    rw [← hW2, ← hX]
    clear hW2 hX
    have HS2 := Lib.hid (HS.out W2 (HM.out.below HB2.out))
    have HP2 := Lib.hid (HP.out.below HB2.out)
    have HE2 := Lib.hid (HE.out.below HB2.out)
    have hxl := lt_of_block HX2.out
    have hrl := lt_of_block HR2.out
    have HW3 := Lib.hid (heap_alloc_new W2 (.cells (wordsC s) 9))
    have HR3 := Lib.hid ((Below.heap_alloc W2 (.cells (wordsC s) 9) _ hrl).trans HR2.out)
    have HX3 := Lib.hid ((Below.heap_alloc W2 (.cells (wordsC s) 9) _ hxl).trans HX2.out)
    have HB3 := Lib.hid (HB2.out.alloc HB2.out.size (.cells (wordsC s) 9))
    have hwc : ((Lib.splitB ⟨#[32]⟩ 0 n s).map Value.string).toArray = wordsC s := by unfold wordsC wsOf; rw [← HN.out]
    rw [hwc] at HS2
    clear hwc HS
    obtain ⟨WC, hWC⟩ : ∃ WC, WC = wordsC s := ⟨_, rfl⟩
    have HWC := Lib.hid hWC
    rw [← hWC] at HS2 HW3 HR3 HX3 HB3
    clear hWC
    have HS9 : Hid (Calls Tryd.prog 44 #[.string s, .string ⟨#[32]⟩] W2 fun e w' => e = .returned (.slice (some ⟨W2.heap.size, 0, none⟩) (n + 1) (n + 1)) ∧ w' = W2.alloc (.cells WC 9)) := HS2
    clear HS2
    have hS2 : ∃ S, S = W2.heap.size := ⟨_, rfl⟩
    obtain ⟨S, hS⟩ := hS2
    rw [← hS] at HS9 HW3
    obtain ⟨W3, hW3⟩ : ∃ W3, W3 = W2.alloc (.cells WC 9) := ⟨_, rfl⟩
    rw [← hW3] at HS9 HW3 HR3 HX3 HB3
    clear hW3
    go_wp2_with fail
    refine HS9.out.mono ?_
    rintro e3 w3 ⟨rfl, rfl⟩
    go_wp2_with fail
    refine (fieldsOf_any X w3 (lt_of_block HX3.out)).mono ?_
    rintro e4 w4 ⟨rfl, hb4⟩
    have HR4 := Lib.hid ((hb4.block _ (lt_of_block HR3.out)).trans HR3.out)
    have HX4 := Lib.hid ((hb4.block _ (lt_of_block HX3.out)).trans HX3.out)
    have HW4 := Lib.hid ((hb4.block _ (lt_of_block HW3.out)).trans HW3.out)
    have HB4 := Lib.hid (HB3.out.trans (hb4.mono HB3.out.size))
    clear hb4 HR3 HX3 HW3 HB3
    go_upto_region 3 with fail
    obtain ⟨W5, hW5⟩ : ∃ W5, W5 = w4.alloc (.cells (ptrC X) 57) := ⟨_, rfl⟩
    have hpc : ptrC X = #[.pointer (some ⟨X, 0, none⟩), .pointer (some ⟨X, 1, none⟩), .pointer (some ⟨X, 2, none⟩), .pointer (some ⟨X, 3, none⟩), .pointer (some ⟨X, 4, none⟩), .pointer (some ⟨X, 5, none⟩), .pointer (some ⟨X, 6, none⟩), .pointer (some ⟨X, 7, none⟩), .pointer (some ⟨X, 8, none⟩)] := rfl
    have HB5 : Hid (Below w.heap.size w W5) := Lib.hid (by rw [hW5]; exact HB4.out.alloc HB4.out.size _)
    have hr5 : W5.heap[w.heap.size]? = some (.cells #[.int .i64 0, .int .i64 0, .int .i64 0, .int .i64 0, .int .i64 0, .int .i64 0, .int .i64 0, .int .i64 0, .int .i64 0] 23 (0, 0)) := by rw [hW5]; exact (Below.heap_alloc _ _ _ (lt_of_block HR4.out)).trans HR4.out
    rw [← hpc, ← hW5]
    have hlR5 := lt_of_block hr5
    obtain ⟨q0, q1, q2, q3, q4, q5, q6, q7, q9⟩ := st_nine hr5
    obtain ⟨g0, g1, g2, g3, g4, g5, g6, g7, g8⟩ := st_nofrost hr5
    clear hpc hW5 hr5
    go_wp2_with fail
    refine bodyPost_ret (v := .tuple #[.agg #[.int .i64 0, .int .i64 0, .int .i64 0, .int .i64 0, .int .i64 0, .int .i64 0, .int .i64 0, .int .i64 0, .int .i64 0], .bool false]) ?_ rfl ⟨HG.out, ?_⟩
    · simp only [results, Tryd.results43]
      go_simp
    · repeat (with_reducible refine Below.setCell ?_ (by simp) _)
      exact HB5.out
  case pos =>
    subst h8
    go_enter Tryd.func43, Tryd.ntmps43
    go_upto_region 2 with fail
    obtain ⟨W2, hW2⟩ : ∃ W2, W2 = (w.alloc (.cells #[.int .i64 0, .int .i64 0, .int .i64 0, .int .i64 0, .int .i64 0, .int .i64 0, .int .i64 0, .int .i64 0, .int .i64 0] 23)).alloc (.cells #[.int .i64 0, .int .i64 0, .int .i64 0, .int .i64 0, .int .i64 0, .int .i64 0, .int .i64 0, .int .i64 0, .int .i64 0] 23) := ⟨_, rfl⟩
    have HX : ∃ X, X = w.heap.size + 1 := ⟨_, rfl⟩
    obtain ⟨X, hX⟩ := HX
    have HB2 : Hid (Below w.heap.size w W2) := Lib.hid (by rw [hW2]; exact ((Below.refl w.heap.size w).alloc (Nat.le_refl _) _).alloc (by simp) _)
    have HR2 : Hid (W2.heap[w.heap.size]? = some (.cells #[.int .i64 0, .int .i64 0, .int .i64 0, .int .i64 0, .int .i64 0, .int .i64 0, .int .i64 0, .int .i64 0, .int .i64 0] 23 (0, 0))) := Lib.hid (by rw [hW2]; exact (Below.heap_alloc _ _ _ (by simp)).trans (heap_alloc_new w _))
    have HX2 : Hid (W2.heap[X]? = some (.cells #[.int .i64 0, .int .i64 0, .int .i64 0, .int .i64 0, .int .i64 0, .int .i64 0, .int .i64 0, .int .i64 0, .int .i64 0] 23 (0, 0))) := Lib.hid (by rw [hW2, hX]; have h := heap_alloc_new (w.alloc (.cells #[.int .i64 0, .int .i64 0, .int .i64 0, .int .i64 0, .int .i64 0, .int .i64 0, .int .i64 0, .int .i64 0, .int .i64 0] 23)) (.cells #[.int .i64 0, .int .i64 0, .int .i64 0, .int .i64 0, .int .i64 0, .int .i64 0, .int .i64 0, .int .i64 0, .int .i64 0] 23); simpa using h)
    have hxw : w.heap.size < X := by omega
    rw [← hW2, ← hX]
    clear hW2 hX
    have HS2 := Lib.hid (HS.out W2 (HM.out.below HB2.out))
    have HP2 := Lib.hid (HP.out.below HB2.out)
    have HE2 := Lib.hid (HE.out.below HB2.out)
    have hxl := lt_of_block HX2.out
    have hrl := lt_of_block HR2.out
    have HW3 := Lib.hid (heap_alloc_new W2 (.cells (wordsC s) 9))
    have HR3 := Lib.hid ((Below.heap_alloc W2 (.cells (wordsC s) 9) _ hrl).trans HR2.out)
    have HX3 := Lib.hid ((Below.heap_alloc W2 (.cells (wordsC s) 9) _ hxl).trans HX2.out)
    have HB3 := Lib.hid (HB2.out.alloc HB2.out.size (.cells (wordsC s) 9))
    have hwc : ((Lib.splitB ⟨#[32]⟩ 0 8 s).map Value.string).toArray = wordsC s := by unfold wordsC wsOf; rw [← HN.out]
    rw [hwc] at HS2
    clear hwc HS
    obtain ⟨WC, hWC⟩ : ∃ WC, WC = wordsC s := ⟨_, rfl⟩
    have HWC := Lib.hid hWC
    rw [← hWC] at HS2 HW3 HR3 HX3 HB3
    clear hWC
    have HS9 : Hid (Calls Tryd.prog 44 #[.string s, .string ⟨#[32]⟩] W2 fun e w' => e = .returned (.slice (some ⟨W2.heap.size, 0, none⟩) 9 9) ∧ w' = W2.alloc (.cells WC 9)) := HS2
    clear HS2
    have hS2 : ∃ S, S = W2.heap.size := ⟨_, rfl⟩
    obtain ⟨S, hS⟩ := hS2
    rw [← hS] at HS9 HW3
    obtain ⟨W3, hW3⟩ : ∃ W3, W3 = W2.alloc (.cells WC 9) := ⟨_, rfl⟩
    rw [← hW3] at HS9 HW3 HR3 HX3 HB3
    clear hW3
    go_wp2_with fail
    refine HS9.out.mono ?_
    rintro e3 w3 ⟨rfl, rfl⟩
    go_wp2_with fail
    refine (fieldsOf_any X w3 (lt_of_block HX3.out)).mono ?_
    rintro e4 w4 ⟨rfl, hb4⟩
    have HR4 := Lib.hid ((hb4.block _ (lt_of_block HR3.out)).trans HR3.out)
    have HX4 := Lib.hid ((hb4.block _ (lt_of_block HX3.out)).trans HX3.out)
    have HW4 := Lib.hid ((hb4.block _ (lt_of_block HW3.out)).trans HW3.out)
    have HB4 := Lib.hid (HB3.out.trans (hb4.mono HB3.out.size))
    clear hb4 HR3 HX3 HW3 HB3
    go_upto_region 5 with fail
    obtain ⟨W5, hW5⟩ : ∃ W5, W5 = w4.alloc (.cells (ptrC X) 57) := ⟨_, rfl⟩
    have hpc : ptrC X = #[.pointer (some ⟨X, 0, none⟩), .pointer (some ⟨X, 1, none⟩), .pointer (some ⟨X, 2, none⟩), .pointer (some ⟨X, 3, none⟩), .pointer (some ⟨X, 4, none⟩), .pointer (some ⟨X, 5, none⟩), .pointer (some ⟨X, 6, none⟩), .pointer (some ⟨X, 7, none⟩), .pointer (some ⟨X, 8, none⟩)] := rfl
    have HST : Hid (PgRow w s w.heap.size X W2.heap.size w4.heap.size 0 StV.zero W5) := Lib.hid (by
      rw [hW5]
      exact ⟨HB4.out.alloc HB4.out.size _, (Below.heap_alloc _ _ _ (lt_of_block HR4.out)).trans HR4.out, (Below.heap_alloc _ _ _ (lt_of_block HX4.out)).trans HX4.out, by rw [← HWC.out, ← hS]; exact (Below.heap_alloc _ _ _ (lt_of_block HW4.out)).trans HW4.out, heap_alloc_new w4 _, fun j hj => by omega⟩)
    rw [← hpc, ← hW5]
    have hx4 := lt_of_block HX4.out
    clear hpc hW5 HR4 HX4 HB4 HB2 HR2 HX2
    go_wp2_with fail
    go_loopw [20] (fun i wr => ∃ (k : Nat) (x : StV), k ≤ 9 ∧ i = .int .i64 k ∧ Hid (PgRow w s w.heap.size X W2.heap.size w4.heap.size k x wr)) (fun i _ => 9 - (intOf i).toNat)
    case atStart => exact ⟨0, StV.zero, by omega, rfl, HST⟩
    case round =>
      clear HST
      obtain ⟨k, x, hk, rfl, HR⟩ := hrel
      have hlX := lt_of_block HR.out.box
      have hlR := lt_of_block HR.out.res
      by_cases h9 : k < 9
      case neg =>
        have p1 : ¬ (k : Int) < 9 := by omega
        obtain rfl : k = 9 := by omega
        have HG : Hid (ParseGives s (.returned (.tuple #[x.v, .bool true]))) := Lib.hid (Or.inl ⟨x, ⟨HN.out.symm, HR.out.got⟩, rfl⟩)
        have hxv : x.v = .agg #[.int .i64 x.bl, .int .i64 x.no, .int .i64 x.st, .int .i64 x.ea, .int .i64 x.du, .int .i64 x.la, .int .i64 x.ti, .int .i64 x.lp, .int .i64 x.bu] := rfl
        rw [hxv] at HG
        have hbx := HR.out.box
        rw [partC_nine] at hbx
        obtain ⟨y0, y1, y2, y3, y4, y5, y6, y7, y8⟩ := st_nine hbx
        obtain ⟨q0, q1, q2, q3, q4, q5, q6, q7, q8⟩ := st_nine HR.out.res
        obtain ⟨g0, g1, g2, g3, g4, g5, g6, g7, g8⟩ := st_nofrost HR.out.res
        have HB := Lib.hid HR.out.bel
        clear hbx hxv
        go_wp2_with fail
        refine bodyPost_ret (v := .tuple #[.agg #[.int .i64 x.bl, .int .i64 x.no, .int .i64 x.st, .int .i64 x.ea, .int .i64 x.du, .int .i64 x.la, .int .i64 x.ti, .int .i64 x.lp, .int .i64 x.bu], .bool true]) ?_ rfl ⟨HG.out, ?_⟩
        · simp only [results, Tryd.results43]
          go_simp
        · repeat (with_reducible refine Below.setCell ?_ (by simp) _)
          exact HB.out
      case pos =>
        have p1 : (k : Int) < 9 := by omega
        have hcw : wr.cell? ⟨W2.heap.size, k, none⟩ = some (.string (wAt s k)) := by rw [cell_of_row wr _ k _ _ _ HR.out.wrd]; exact wordsC_at s k (by have := HLEN.out; omega)
        have HNO := Lib.hid (numberOf_full (wAt s k) wr (HP.out.below HR.out.bel) (HE.out.below HR.out.bel))
        obtain ⟨WD, hWD⟩ : ∃ WD, WD = wAt s k := ⟨_, rfl⟩
        have HWD := Lib.hid hWD
        rw [← hWD] at hcw HNO
        clear hWD
        go_wp2_with fail
        refine HNO.out.mono ?_
        rintro e6 w6 ⟨⟨n6, rfl, hn6⟩, hb6⟩
        have HR6 : Hid (PgRow w s w.heap.size X W2.heap.size w4.heap.size k x w6) := Lib.hid ⟨HR.out.bel.trans (hb6.mono HR.out.bel.size), (hb6.block _ (lt_of_block HR.out.res)).trans HR.out.res, (hb6.block _ (lt_of_block HR.out.box)).trans HR.out.box, (hb6.block _ (lt_of_block HR.out.wrd)).trans HR.out.wrd, (hb6.block _ (lt_of_block HR.out.ptr)).trans HR.out.ptr, HR.out.got⟩
        clear hb6 hcw HNO
        cases hw : wordE WD.data.toList with
        | none =>
          have HG : Hid (ParseGives s (.returned (.tuple #[StV.zero.v, .bool false]))) := Lib.hid (Or.inr ⟨Or.inr ⟨k, h9, by rw [← HWD.out]; exact hw⟩, rfl⟩)
          rw [zero_v] at HG
          have hlR6 := lt_of_block HR6.out.res
          obtain ⟨q0, q1, q2, q3, q4, q5, q6, q7, q8⟩ := st_nine HR6.out.res
          obtain ⟨g0, g1, g2, g3, g4, g5, g6, g7, g8⟩ := st_nofrost HR6.out.res
          have HB := Lib.hid HR6.out.bel
          have his : (none : Option Int).isSome = false := rfl
          clear hn6 hw
          rw [his]
          clear his
          go_wp2_with fail
          refine bodyPost_ret (v := .tuple #[.agg #[.int .i64 0, .int .i64 0, .int .i64 0, .int .i64 0, .int .i64 0, .int .i64 0, .int .i64 0, .int .i64 0, .int .i64 0], .bool false]) ?_ rfl ⟨HG.out, ?_⟩
          · simp only [results, Tryd.results43]
            go_simp
          · repeat (with_reducible refine Below.setCell ?_ (by simp) _)
            exact HB.out
        | some y =>
          obtain rfl : n6 = y := hn6 y hw
          have HW : Hid (wordE (wAt s k).data.toList = some n6) := Lib.hid (by rw [← HWD.out]; exact hw)
          have HPUT := Lib.hid (setF_put x k n6 h9)
          have his : (some n6 : Option Int).isSome = true := rfl
          clear hn6 hw HWD
          rw [his]
          clear his
          have hcp : w6.cell? ⟨w4.heap.size, k, none⟩ = some (.pointer (some ⟨X, k, none⟩)) := by rw [cell_of_row w6 _ k _ _ _ HR6.out.ptr]; exact ptrC_at X k h9
          have hcx : w6.cell? ⟨X, k, none⟩ = some (.int .i64 0) := by rw [cell_of_row w6 _ k _ _ _ HR6.out.box]; exact partC_at x k h9
          have hfx := frozen_of_row w6 X k _ _ HR6.out.box
          go_wp2_with fail
          go_roundw
          case rel =>
            refine ⟨k + 1, setF x k n6, by omega, by go_num, Lib.hid ⟨HR6.out.bel.setCell (by simp; omega) _, ?_, ?_, ?_, ?_, ?_⟩⟩
            · exact (heap_setCell_other _ _ _ _ (by simp; omega)).trans HR6.out.res
            · rw [← HPUT.out]; exact heap_setCell_same w6 X k _ _ _ HR6.out.box
            · exact (heap_setCell_other _ _ _ _ (by simp; omega)).trans HR6.out.wrd
            · exact (heap_setCell_other _ _ _ _ (by simp; omega)).trans HR6.out.ptr
            · intro j hj
              by_cases hjk : j = k
              · subst hjk
                rw [setF_same x j n6 h9]
                exact HW.out
              · rw [setF_other x k j n6 h9 (by omega)]
                exact HR6.out.got j (by omega)
          case measure => simp [intOf]; omega
end Go.Proofs.YtnellkdiafglgaaDoor
