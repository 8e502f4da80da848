/- Cards: StateText, StateString. -/
import Derived.Test.YtnellkdiafglgaaDoorCdV
import Derived.Test.YtnellkdiafglgaaDoorCdL
namespace Go.Proofs.YtnellkdiafglgaaDoor
open Go.RowKit Go.Shelf Go.Joins

theorem infoStr : (Tryd.prog.info? 9).map (fun i => (i.zero, i.size, i.bytes)) = some (some (.string ByteArray.empty), 1, 16) := by kernel_rfl
theorem own_strs {w : World} {B : Nat} {v : Value} {l : List ByteArray} (h : w.ownsRow B 9 1 v l.length (strs l)) (h0 : 0 < l.length) :
    ∃ g cap, v = .slice (some ⟨g, 0, none⟩) l.length cap ∧ l.length ≤ cap ∧ g < w.heap.size ∧ ∀ (j : Nat) x, l[j]? = some x → w.cell? ⟨g, 0 + j, none⟩ = some (.string x) := by
  rcases h.2 with ⟨h1, h2⟩ | ⟨g, cap, cur, hv, hg, hb, hc, _, _, ht⟩
  · omega
  · refine ⟨g, cap, hv, hc, lt_of_block hb, fun j x hj => ?_⟩
    obtain ⟨hjl, hje⟩ := List.getElem?_eq_some_iff.1 hj
    rw [cell_of_row w g (0 + j) _ _ _ hb, Nat.zero_add]
    have h1 : (cur.toList.take (l.length * 1))[j]? = cur[j]? := by
      rw [List.getElem?_take, if_pos (by omega)]
      simp
    rw [← h1, ht]
    unfold strs
    rw [List.getElem?_map, hj]
    rfl
theorem hpk_of {w : World} {g k : Nat} {v : Option Value} (h : w.cell? ⟨g, 0 + k, none⟩ = v) : w.cell? ⟨g, k, none⟩ = v := by rw [Nat.zero_add] at h; exact h
/-- The rounds so far. -/
structure TxRow (w : World) (B : Nat) (x : StV) (k : Nat) (v : Value) (wr : World) : Prop where
  own : wr.ownsRow B 9 1 v k (strs ((wordsL x).take k))
  bel : Below w.heap.size w wr
  box : wr.heap[w.heap.size]? = some (.cells x.cells 23 (0, 0))
  lo : w.heap.size < B
  hi : B ≤ wr.heap.size
set_option maxRecDepth 100000 in
set_option maxHeartbeats 8000000 in
theorem stateText_any (x : StV) (w : World) (hp : Pow w) : Calls Tryd.prog 10 #[x.v] w fun e w' => e = .returned (.tuple #[.string (textV x), .int .i64 (stE x)]) ∧ Below w.heap.size w w' := by
  obtain ⟨i0, hi, hz0, hz1, hz2⟩ := info_parts infoStr
  have HCK := Lib.hid (fun W => checkState_any x W)
  have HP := Lib.hid hp
  have hxv : x.v = .agg #[.int .i64 x.bl, .int .i64 x.no, .int .i64 x.st, .int .i64 x.ea, .int .i64 x.du, .int .i64 x.la, .int .i64 x.ti, .int .i64 x.lp, .int .i64 x.bu] := rfl
  rw [hxv] at HCK ⊢
  have HB0 := Lib.hid ((Below.refl w.heap.size w).alloc (Nat.le_refl _) (.cells #[.int .i64 x.bl, .int .i64 x.no, .int .i64 x.st, .int .i64 x.ea, .int .i64 x.du, .int .i64 x.la, .int .i64 x.ti, .int .i64 x.lp, .int .i64 x.bu] 23))
  have HX0 : Hid ((w.alloc (.cells #[.int .i64 x.bl, .int .i64 x.no, .int .i64 x.st, .int .i64 x.ea, .int .i64 x.du, .int .i64 x.la, .int .i64 x.ti, .int .i64 x.lp, .int .i64 x.bu] 23)).heap[w.heap.size]? = some (.cells x.cells 23 (0, 0))) := Lib.hid (heap_alloc_new w _)
  clear hp hxv
  by_cases hE : stE x = 0
  case neg =>
    have ht : textV x = ⟨#[]⟩ := by unfold textV; rw [if_neg hE]
    rw [ht]
    have hE' : (stE x != 0) = true := bne_iff_ne.2 hE
    clear ht hE
    generalize stE x = E at *
    go_enter Tryd.func10, Tryd.ntmps10
    go_wp2_with fail
    refine (HCK.out _).mono ?_
    rintro e1 w1 ⟨rfl, hb1⟩
    have HB1 := Lib.hid (HB0.out.trans (hb1.mono HB0.out.size))
    clear hb1
    go_wp2_with fail
    go_ret2
    exact ⟨rfl, HB1.out⟩
  case pos =>
    have htx : textV x = textOf x := by unfold textV; rw [if_pos hE]
    rw [htx]
    obtain ⟨TX, hTX⟩ : ∃ TX, TX = textOf x := ⟨_, rfl⟩
    rw [← hTX]
    have HTX := Lib.hid hTX
    clear htx hTX
    have hin := (stE_ok hE).1
    rw [hE] at HCK ⊢
    have HFB := Lib.hid (fun k => fld_bd hin k)
    have HTL := Lib.hid (text_len hin)
    clear hE hin
    go_enter Tryd.func10, Tryd.ntmps10
    go_wp2_with fail
    refine (HCK.out _).mono ?_
    rintro e1 w1 ⟨rfl, hb1⟩
    have HB1 := Lib.hid (HB0.out.trans (hb1.mono HB0.out.size))
    have HX1 := Lib.hid ((hb1.block _ (lt_of_block HX0.out)).trans HX0.out)
    clear hb1
    go_wp2_with fail
    refine (fieldsOf_any w.heap.size _ (lt_of_block HX1.out)).mono ?_
    rintro e2 w2 ⟨rfl, hb2⟩
    have HB2 := Lib.hid (HB1.out.trans (hb2.mono HB1.out.size))
    have HX2 := Lib.hid ((hb2.block _ (lt_of_block HX1.out)).trans HX1.out)
    have hB := lt_of_block HX2.out
    have HB2X : Hid (w1.heap.size ≤ w2.heap.size) := Lib.hid hb2.size
    clear hb2
    have hidx : ∀ (k : Nat), k < 9 → ∀ (W : World), (Instr.index 57 (.agg #[.pointer (some ⟨w.heap.size, 0, none⟩), .pointer (some ⟨w.heap.size, 1, none⟩), .pointer (some ⟨w.heap.size, 2, none⟩), .pointer (some ⟨w.heap.size, 3, none⟩), .pointer (some ⟨w.heap.size, 4, none⟩), .pointer (some ⟨w.heap.size, 5, none⟩), .pointer (some ⟨w.heap.size, 6, none⟩), .pointer (some ⟨w.heap.size, 7, none⟩), .pointer (some ⟨w.heap.size, 8, none⟩)]) (.int .i64 (k : Int))).run Tryd.prog W = .ok (.pointer (some ⟨w.heap.size, k, none⟩)) W := by
      intro k hk W
      rcases (by omega : k = 0 ∨ k = 1 ∨ k = 2 ∨ k = 3 ∨ k = 4 ∨ k = 5 ∨ k = 6 ∨ k = 7 ∨ k = 8) with rfl | rfl | rfl | rfl | rfl | rfl | rfl | rfl | rfl <;> kernel_rfl
    have HIDX := Lib.hid hidx
    clear hidx
    go_wp2_with fail
    go_loopw [5, 14] (fun v i wr => ∃ (k : Nat) (V : Value), V = v ∧ k ≤ 9 ∧ i = .int .i64 k ∧ Hid (TxRow w w2.heap.size x k V wr)) (fun _ i _ => 9 - (intOf i).toNat)
    case atStart => exact ⟨0, _, rfl, by omega, rfl, Lib.hid ⟨World.ownsRow_nil _ _ _ _, HB2.out, HX2.out, hB, Nat.le_refl _⟩⟩
    case round =>
      obtain ⟨k, V, hV, hk, rfl, HR⟩ := hrel
      subst hV
      have hsz := HR.out.hi
      by_cases h9 : k < 9
      case neg =>
        have p1 : ¬ (k : Int) < 9 := by omega
        obtain rfl : k = 9 := by omega
        have hown := HR.out.own
        have htk : (wordsL x).take 9 = wordsL x := List.take_of_length_le (by rw [wordsL_len]; omega)
        rw [htk] at hown
        obtain ⟨g0, cap, rfl, hc, hg0, hcl⟩ := own_strs (l := wordsL x) hown (by rw [wordsL_len]; omega)
        have HJ := Lib.hid (Tryd.strings_Join g0 0 cap (wordsL x) ⟨#[32]⟩ wr hcl hg0 (by rw [wordsL_len]; omega) hc (Nat.le_trans HTL.out (by omega)))
        rw [wordsL_len] at HJ
        have HB := Lib.hid HR.out.bel
        have HTO : Hid (∀ e, e = Ending.returned (.string ⟨(Lib.join ((wordsL x).map (·.data.toList)) (⟨#[32]⟩ : ByteArray).data.toList).toArray⟩) → e = .returned (.string TX)) := Lib.hid (fun e h => by rw [HTX.out]; exact h)
        clear hown htk hcl hc
        rw [wordsL_len]
        go_wp2_with fail
        refine HJ.out.mono ?_
        rintro e3 w3 ⟨he3, hb3⟩
        have he3 := HTO.out _ he3
        subst he3
        have HB3 := Lib.hid (HB.out.trans (hb3.mono HB.out.size))
        clear hb3
        go_wp2_with fail
        go_ret2
        exact ⟨rfl, HB3.out⟩
      case pos =>
        have p1 : (k : Int) < 9 := by omega
        have hfc := fld_cell HR.out.box k h9
        obtain ⟨fb0, fb1⟩ := HFB.out k
        obtain ⟨y, hy⟩ : ∃ y, y = (fldL x).getD k 0 := ⟨_, rfl⟩
        have HWT := Lib.hid (words_take x k h9)
        rw [← hy] at hfc fb0 fb1 HWT
        clear hy
        have HIT := Lib.hid (itoa_any y fb0 fb1 wr (HP.out.below HR.out.bel))
        have hid9 := HIDX.out k h9
        go_wp2_with fail
        refine HIT.out.mono ?_
        rintro e3 w3 ⟨rfl, hb3⟩
        have HB3 := Lib.hid (HR.out.bel.trans (hb3.mono HR.out.bel.size))
        have HX3 := Lib.hid ((hb3.block _ (lt_of_block HR.out.box)).trans HR.out.box)
        have HO3 := Lib.hid (own_below HR.out.own hb3)
        have hs3 : w2.heap.size ≤ w3.heap.size := by have := hb3.size; omega
        clear hb3 hfc hid9
        generalize wordOf y = WD at *
        obtain ⟨W3, hW3⟩ : ∃ W3, W3 = w3.alloc (.cells #[.string WD] 9) := ⟨_, rfl⟩
        have hnews : ∀ j u, [Value.string WD][j]? = some u → W3.cell? ((⟨w3.heap.size, 0, none⟩ : Addr).add j) = some u := by
          intro j u hj
          have h := heap_alloc_new w3 (.cells #[.string WD] 9)
          rw [hW3, addr_plus, Nat.zero_add, cell_of_row _ w3.heap.size j _ _ (0, 0) h]
          simpa using hj
        have HO4 : Hid (W3.ownsRow w2.heap.size 9 1 V k (strs ((wordsL x).take k))) := Lib.hid (by rw [hW3]; exact HO3.out.alloc _)
        have HB4 : Hid (Below w.heap.size w W3) := Lib.hid (by rw [hW3]; exact HB3.out.alloc HB3.out.size _)
        have HX4 : Hid (W3.heap[w.heap.size]? = some (.cells x.cells 23 (0, 0))) := Lib.hid (by rw [hW3]; exact (Below.heap_alloc _ _ _ (by omega)).trans HX3.out)
        have hs4 : w2.heap.size ≤ W3.heap.size := by rw [hW3]; simp; omega
        have HNEWS := Lib.hid hnews
        have HW3 := Lib.hid hW3
        clear hnews hW3
        go_wp2_with (at_builtin; rw [← HW3.out]; refine wpList_append_own _ rfl _ _ 55 rfl w2.heap.size 9 i0 _ 1 16 Tryd.underlying55 hi hz0 hz1 hz2 rfl (by omega) _ _ _ rfl HO4.out ⟨w3.heap.size, 0, none⟩ 1 1 [.string WD] rfl rfl HNEWS.out (by intro u hu; simp at hu; rw [hu]; rfl) (by unfold maxLen; omega) (by omega) hs4 ?_)
        intro v' w4 hown4 hgrow4 _
        have HC4 : Hid (TxRow w w2.heap.size x (k + 1) v' w4) := Lib.hid ⟨by rw [HWT.out, strs_app]; exact hown4, HB4.out.grown hgrow4 (by omega) (fun q hq => by have := (HO4.out.lt q hq).1; omega), (hgrow4.block _ (by omega) (fun e => by have := (HO4.out.lt _ e.symm).1; omega)).trans HX4.out, hB, by have := hgrow4.size; omega⟩
        clear hown4 hgrow4
        go_wp2_with fail
        go_roundw
        case rel => exact ⟨k + 1, _, rfl, by omega, by go_num, HC4⟩
        case measure => simp [intOf]; omega
set_option maxRecDepth 100000 in
set_option maxHeartbeats 8000000 in
theorem stateString_any (x : StV) (w : World) (hp : Pow w) : Calls Tryd.prog 11 #[x.v] w fun e w' => e = .returned (.tuple #[.string (textV x), .int .i64 (stE x)]) ∧ Below w.heap.size w w' := by
  obtain ⟨i0, hi, hz0, hz1, hz2⟩ := info_parts infoStr
  have HCK := Lib.hid (fun W => stateFault_any x W)
  have HP := Lib.hid hp
  have hxv : x.v = .agg #[.int .i64 x.bl, .int .i64 x.no, .int .i64 x.st, .int .i64 x.ea, .int .i64 x.du, .int .i64 x.la, .int .i64 x.ti, .int .i64 x.lp, .int .i64 x.bu] := rfl
  rw [hxv] at HCK ⊢
  have HB0 := Lib.hid ((Below.refl w.heap.size w).alloc (Nat.le_refl _) (.cells #[.int .i64 x.bl, .int .i64 x.no, .int .i64 x.st, .int .i64 x.ea, .int .i64 x.du, .int .i64 x.la, .int .i64 x.ti, .int .i64 x.lp, .int .i64 x.bu] 23))
  have HX0 : Hid ((w.alloc (.cells #[.int .i64 x.bl, .int .i64 x.no, .int .i64 x.st, .int .i64 x.ea, .int .i64 x.du, .int .i64 x.la, .int .i64 x.ti, .int .i64 x.lp, .int .i64 x.bu] 23)).heap[w.heap.size]? = some (.cells x.cells 23 (0, 0))) := Lib.hid (heap_alloc_new w _)
  clear hp hxv
  by_cases hE : stE x = 0
  case neg =>
    have ht : textV x = ⟨#[]⟩ := by unfold textV; rw [if_neg hE]
    rw [ht]
    have hE' : (stE x != 0) = true := bne_iff_ne.2 hE
    clear ht hE
    generalize stE x = E at *
    go_enter Tryd.func11, Tryd.ntmps11
    go_wp2_with fail
    refine (HCK.out _).mono ?_
    rintro e1 w1 ⟨rfl, hb1⟩
    have HB1 := Lib.hid (HB0.out.trans (hb1.mono HB0.out.size))
    clear hb1
    go_wp2_with fail
    go_ret2
    exact ⟨rfl, HB1.out⟩
  case pos =>
    have htx : textV x = textOf x := by unfold textV; rw [if_pos hE]
    rw [htx]
    obtain ⟨TX, hTX⟩ : ∃ TX, TX = textOf x := ⟨_, rfl⟩
    rw [← hTX]
    have HTX := Lib.hid hTX
    clear htx hTX
    have hin := (stE_ok hE).1
    rw [hE] at HCK ⊢
    have HFB := Lib.hid (fun k => fld_bd hin k)
    have HTL := Lib.hid (text_len hin)
    clear hE hin
    go_enter Tryd.func11, Tryd.ntmps11
    go_wp2_with fail
    refine (HCK.out _).mono ?_
    rintro e1 w1 ⟨rfl, hb1⟩
    have HB1 := Lib.hid (HB0.out.trans (hb1.mono HB0.out.size))
    have HX1 := Lib.hid ((hb1.block _ (lt_of_block HX0.out)).trans HX0.out)
    clear hb1
    go_wp2_with fail
    refine (numbersOf_any w.heap.size _ (lt_of_block HX1.out)).mono ?_
    rintro e2 w2 ⟨v2, rfl, g, rfl, hg, hpt, hb2⟩
    have HPT := Lib.hid hpt
    have hgl : g < w2.heap.size := World.block_lt_of_cell? w2 _ (hpt 0 (by omega))
    clear hpt
    have HB2 := Lib.hid (HB1.out.trans (hb2.mono HB1.out.size))
    have HX2 := Lib.hid ((hb2.block _ (lt_of_block HX1.out)).trans HX1.out)
    have hB := lt_of_block HX2.out
    have HB2X : Hid (w1.heap.size ≤ w2.heap.size) := Lib.hid hb2.size
    clear hb2
    go_wp2_with fail
    go_loopw [5, 15] (fun v i wr => ∃ (k : Nat) (V : Value), V = v ∧ k ≤ 9 ∧ i = .int .i64 k ∧ Hid (TxRow w w2.heap.size x k V wr) ∧ Hid (∀ j, j < 9 → wr.cell? ⟨g, 0 + j, none⟩ = some (.pointer (some ⟨w.heap.size, j, none⟩)))) (fun _ i _ => 9 - (intOf i).toNat)
    case atStart => exact ⟨0, _, rfl, by omega, rfl, Lib.hid ⟨World.ownsRow_nil _ _ _ _, HB2.out, HX2.out, hB, Nat.le_refl _⟩, HPT⟩
    case round =>
      obtain ⟨k, V, hV, hk, rfl, HR, HPR⟩ := hrel
      subst hV
      have hsz := HR.out.hi
      by_cases h9 : k < 9
      case neg =>
        have p1 : ¬ (k : Int) < 9 := by omega
        obtain rfl : k = 9 := by omega
        have hown := HR.out.own
        have htk : (wordsL x).take 9 = wordsL x := List.take_of_length_le (by rw [wordsL_len]; omega)
        rw [htk] at hown
        obtain ⟨g0, cap, rfl, hc, hg0, hcl⟩ := own_strs (l := wordsL x) hown (by rw [wordsL_len]; omega)
        have HJ := Lib.hid (Tryd.strings_Join g0 0 cap (wordsL x) ⟨#[32]⟩ wr hcl hg0 (by rw [wordsL_len]; omega) hc (Nat.le_trans HTL.out (by omega)))
        rw [wordsL_len] at HJ
        have HB := Lib.hid HR.out.bel
        have HTO : Hid (∀ e, e = Ending.returned (.string ⟨(Lib.join ((wordsL x).map (·.data.toList)) (⟨#[32]⟩ : ByteArray).data.toList).toArray⟩) → e = .returned (.string TX)) := Lib.hid (fun e h => by rw [HTX.out]; exact h)
        clear hown htk hcl hc
        rw [wordsL_len]
        go_wp2_with fail
        refine HJ.out.mono ?_
        rintro e3 w3 ⟨he3, hb3⟩
        have he3 := HTO.out _ he3
        subst he3
        have HB3 := Lib.hid (HB.out.trans (hb3.mono HB.out.size))
        clear hb3
        go_wp2_with fail
        go_ret2
        exact ⟨rfl, HB3.out⟩
      case pos =>
        have p1 : (k : Int) < 9 := by omega
        have hfc := fld_cell HR.out.box k h9
        obtain ⟨fb0, fb1⟩ := HFB.out k
        obtain ⟨y, hy⟩ : ∃ y, y = (fldL x).getD k 0 := ⟨_, rfl⟩
        have HWT := Lib.hid (words_take x k h9)
        rw [← hy] at hfc fb0 fb1 HWT
        clear hy
        have HIT := Lib.hid (itoa_any y fb0 fb1 wr (HP.out.below HR.out.bel))
        have hpk := hpk_of (HPR.out k h9)
        go_wp2_with fail
        refine HIT.out.mono ?_
        rintro e3 w3 ⟨rfl, hb3⟩
        have HB3 := Lib.hid (HR.out.bel.trans (hb3.mono HR.out.bel.size))
        have HX3 := Lib.hid ((hb3.block _ (lt_of_block HR.out.box)).trans HR.out.box)
        have HO3 := Lib.hid (own_below HR.out.own hb3)
        have hs3 : w2.heap.size ≤ w3.heap.size := by have := hb3.size; omega
        have HPT3 : Hid (∀ j, j < 9 → w3.cell? ⟨g, 0 + j, none⟩ = some (.pointer (some ⟨w.heap.size, j, none⟩))) := Lib.hid (fun j hj => (hb3.cell (p := ⟨g, 0 + j, none⟩) (by show g < wr.heap.size; omega)).trans (HPR.out j hj))
        clear hb3 hfc hpk
        generalize wordOf y = WD at *
        obtain ⟨W3, hW3⟩ : ∃ W3, W3 = w3.alloc (.cells #[.string WD] 9) := ⟨_, rfl⟩
        have hnews : ∀ j u, [Value.string WD][j]? = some u → W3.cell? ((⟨w3.heap.size, 0, none⟩ : Addr).add j) = some u := by
          intro j u hj
          have h := heap_alloc_new w3 (.cells #[.string WD] 9)
          rw [hW3, addr_plus, Nat.zero_add, cell_of_row _ w3.heap.size j _ _ (0, 0) h]
          simpa using hj
        have HO4 : Hid (W3.ownsRow w2.heap.size 9 1 V k (strs ((wordsL x).take k))) := Lib.hid (by rw [hW3]; exact HO3.out.alloc _)
        have HB4 : Hid (Below w.heap.size w W3) := Lib.hid (by rw [hW3]; exact HB3.out.alloc HB3.out.size _)
        have HX4 : Hid (W3.heap[w.heap.size]? = some (.cells x.cells 23 (0, 0))) := Lib.hid (by rw [hW3]; exact (Below.heap_alloc _ _ _ (by omega)).trans HX3.out)
        have hs4 : w2.heap.size ≤ W3.heap.size := by rw [hW3]; simp; omega
        have HPT4 : Hid (∀ j, j < 9 → W3.cell? ⟨g, 0 + j, none⟩ = some (.pointer (some ⟨w.heap.size, j, none⟩))) := Lib.hid (fun j hj => by rw [hW3]; exact (((Below.refl w3.heap.size w3).alloc (Nat.le_refl _) _).cell (p := ⟨g, 0 + j, none⟩) (by show g < w3.heap.size; omega)).trans (HPT3.out j hj))
        have HNEWS := Lib.hid hnews
        have HW3 := Lib.hid hW3
        clear hnews hW3
        go_wp2_with (at_builtin; rw [← HW3.out]; refine wpList_append_own _ rfl _ _ 55 rfl w2.heap.size 9 i0 _ 1 16 Tryd.underlying55 hi hz0 hz1 hz2 rfl (by omega) _ _ _ rfl HO4.out ⟨w3.heap.size, 0, none⟩ 1 1 [.string WD] rfl rfl HNEWS.out (by intro u hu; simp at hu; rw [hu]; rfl) (by unfold maxLen; omega) (by omega) hs4 ?_)
        intro v' w4 hown4 hgrow4 _
        have HC4 : Hid (TxRow w w2.heap.size x (k + 1) v' w4) := Lib.hid ⟨by rw [HWT.out, strs_app]; exact hown4, HB4.out.grown hgrow4 (by omega) (fun q hq => by have := (HO4.out.lt q hq).1; omega), (hgrow4.block _ (by omega) (fun e => by have := (HO4.out.lt _ e.symm).1; omega)).trans HX4.out, hB, by have := hgrow4.size; omega⟩
        have HPT5 : Hid (∀ j, j < 9 → w4.cell? ⟨g, 0 + j, none⟩ = some (.pointer (some ⟨w.heap.size, j, none⟩))) := Lib.hid (fun j hj => (World.cell?_of_block (w := W3) (a := ⟨g, 0 + j, none⟩) (hgrow4.block g (by omega) (fun e => by have := (HO4.out.lt _ e.symm).1; omega))).trans (HPT4.out j hj))
        clear hown4 hgrow4
        go_wp2_with fail
        go_roundw
        case rel => exact ⟨k + 1, _, rfl, by omega, by go_num, HC4, HPT5⟩
        case measure => simp [intOf]; omega
end Go.Proofs.YtnellkdiafglgaaDoor
