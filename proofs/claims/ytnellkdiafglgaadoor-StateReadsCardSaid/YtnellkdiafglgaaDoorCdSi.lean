/- Cards: the reference's ReadStateOf at whatever string. -/
import Derived.Test.YtnellkdiafglgaaDoorCdSf
import Derived.Test.YtnellkdiafglgaaDoorCdF
namespace Go.Proofs.YtnellkdiafglgaaDoor
open Go.RowKit Go.Shelf Go.Joins

theorem split_le (sep : ByteArray) : ∀ (k : Nat) (s x : ByteArray), x ∈ Lib.splitB sep 0 k s → x.size ≤ s.size
  | 0, s, x, h => by rw [Lib.splitB_zero, List.mem_singleton] at h; rw [h]; exact Nat.le_refl _
  | k + 1, s, x, h => by
    unfold Lib.splitB at h
    split at h
    · rw [List.mem_singleton] at h; rw [h]; exact Nat.le_refl _
    · rcases List.mem_cons.1 h with h | h
      · rw [h, ByteArray.size_extract]; omega
      · have := split_le sep k _ x h
        rw [ByteArray.size_extract] at this
        omega
theorem wAt_le (s : ByteArray) (k : Nat) (h : k < (wsOf s).length) : (wAt s k).size ≤ s.size := by
  unfold wAt
  rw [List.getD_eq_getElem?_getD, List.getElem?_eq_getElem h]
  exact split_le _ _ _ _ (List.getElem_mem h)
/-- The rounds so far. -/
structure PhRow (w : World) (s : ByteArray) (R X S A k : Nat) (x : StV) (wr : World) : Prop where
  bel : Below w.heap.size w wr
  res : wr.heap[R]? = some (.cells #[.int .i64 0, .int .i64 0, .int .i64 0, .int .i64 0, .int .i64 0, .int .i64 0, .int .i64 0, .int .i64 0, .int .i64 0] 23 (0, 0))
  box : wr.heap[X]? = some (.cells (partC x k) 23 (0, 0))
  wrd : wr.heap[S]? = some (.cells (wordsC s) 9 (0, 0))
  ptr : ∀ j, j < 9 → wr.cell? ⟨A, j, none⟩ = some (.pointer (some ⟨X, j, none⟩))
  got : ∀ j, j < k → wordE (wAt s j).data.toList = some ((fldL x).getD j 0)
set_option maxRecDepth 100000 in
set_option maxHeartbeats 8000000 in
theorem readStateOf_full (s : ByteArray) (w : World) (hm : MaxL w) (hev : ErrV w) : Calls Tryd.prog 17 #[.string s] w fun e w' => RdGives s e ∧ Below w.heap.size w w' := by
  by_cases hbig : 2000 < s.size
  · have p0 : (2000 : Int) < (s.size : Int) := by omega
    have HG : Hid (RdGives s (.returned (.tuple #[StV.zero.v, .int .i64 4]))) := Lib.hid (Or.inl ⟨hbig, rfl⟩)
    rw [zero_v] at HG
    clear hbig hm hev
    go_enter Tryd.func17, Tryd.ntmps17
    go_upto_region 2 with fail
    obtain ⟨W2, hW2⟩ : ∃ W2, W2 = (w.alloc (.cells #[.int .i64 0, .int .i64 0, .int .i64 0, .int .i64 0, .int .i64 0, .int .i64 0, .int .i64 0, .int .i64 0, .int .i64 0] 23)).alloc (.cells #[.int .i64 0, .int .i64 0, .int .i64 0, .int .i64 0, .int .i64 0, .int .i64 0, .int .i64 0, .int .i64 0, .int .i64 0] 23) := ⟨_, rfl⟩
    have HX : ∃ X, X = w.heap.size + 1 := ⟨_, rfl⟩
    obtain ⟨X, hX⟩ := HX
    have HB2 : Hid (Below w.heap.size w W2) := Lib.hid (by rw [hW2]; exact ((Below.refl w.heap.size w).alloc (Nat.le_refl _) _).alloc (by simp) _)
    have HR2 : Hid (W2.heap[w.heap.size]? = some (.cells #[.int .i64 0, .int .i64 0, .int .i64 0, .int .i64 0, .int .i64 0, .int .i64 0, .int .i64 0, .int .i64 0, .int .i64 0] 23 (0, 0))) := Lib.hid (by rw [hW2]; exact (Below.heap_alloc _ _ _ (by simp)).trans (heap_alloc_new w _))
    have HX2 : Hid (W2.heap[X]? = some (.cells #[.int .i64 0, .int .i64 0, .int .i64 0, .int .i64 0, .int .i64 0, .int .i64 0, .int .i64 0, .int .i64 0, .int .i64 0] 23 (0, 0))) := Lib.hid (by rw [hW2, hX]; have h := heap_alloc_new (w.alloc (.cells #[.int .i64 0, .int .i64 0, .int .i64 0, .int .i64 0, .int .i64 0, .int .i64 0, .int .i64 0, .int .i64 0, .int .i64 0] 23)) (.cells #[.int .i64 0, .int .i64 0, .int .i64 0, .int .i64 0, .int .i64 0, .int .i64 0, .int .i64 0, .int .i64 0, .int .i64 0] 23); simpa using h)
    have hxw : w.heap.size < X := by omega
    rw [← hW2, ← hX]
    clear hW2 hX
    have hxl := lt_of_block HX2.out
    have hrl := lt_of_block HR2.out
    have hr2 := HR2.out
    obtain ⟨z0, z1, z2, z3, z4, z5, z6, z7, z8⟩ := st_nine hr2
    obtain ⟨g0, g1, g2, g3, g4, g5, g6, g7, g8⟩ := st_nofrost hr2
    have hx2 := HX2.out
    obtain ⟨y0, y1, y2, y3, y4, y5, y6, y7, y8⟩ := st_nine hx2
    clear hr2 hx2
    go_wp2_with fail
    refine bodyPost_ret (v := .tuple #[.agg #[.int .i64 0, .int .i64 0, .int .i64 0, .int .i64 0, .int .i64 0, .int .i64 0, .int .i64 0, .int .i64 0, .int .i64 0], .int .i64 4]) ?_ rfl ⟨HG.out, ?_⟩
    · simp only [results, Tryd.results17]
      go_simp
    · repeat (with_reducible refine Below.setCell ?_ (by simp) _)
      exact HB2.out

  have p0 : ¬ (2000 : Int) < (s.size : Int) := by omega
  have hsm : s.size ≤ 2000 := by omega
  have HSM := Lib.hid hsm
  have hlen := wsOf_len s
  obtain ⟨n, hn⟩ : ∃ n, n = Lib.countB s ⟨#[32]⟩ := ⟨_, rfl⟩
  have HS := Lib.hid (fun (W : World) (h : MaxL W) => by
    obtain ⟨m, hm⟩ := h
    have := Tryd.strings_Split s ⟨#[32]⟩ m W (by omega) hm (by decide)
    rw [← hn] at this
    exact this)
  have hsz : Lib.countB s ⟨#[32]⟩ ≤ s.size := Lib.countB_le ⟨#[32]⟩ (by decide) s.size s (Nat.le_refl _)
  rw [← hn] at hlen hsz
  have HM := Lib.hid hm
  have HE := Lib.hid hev
  have HN := Lib.hid hn
  have hn1 : n ≤ 2000 := by omega
  have HLEN := Lib.hid hlen
  clear hsz hn hbig hsm hm hev hlen
  by_cases h8 : n = 8
  case neg =>
    have q8 : ¬ ((n : Int) + 1 = 9) := by omega
    have q8b : (((n : Int) + 1) != 9) = true := by simpa using q8
    have HG : Hid (RdGives s (.returned (.tuple #[StV.zero.v, .int .i64 8]))) := Lib.hid (Or.inr ⟨HSM.out, none, Or.inl (by rw [← HN.out]; exact h8), rfl⟩)
    rw [zero_v] at HG
    go_enter Tryd.func17, Tryd.ntmps17
    go_upto_region 2 with fail
    obtain ⟨W2, hW2⟩ : ∃ W2, W2 = (w.alloc (.cells #[.int .i64 0, .int .i64 0, .int .i64 0, .int .i64 0, .int .i64 0, .int .i64 0, .int .i64 0, .int .i64 0, .int .i64 0] 23)).alloc (.cells #[.int .i64 0, .int .i64 0, .int .i64 0, .int .i64 0, .int .i64 0, .int .i64 0, .int .i64 0, .int .i64 0, .int .i64 0] 23) := ⟨_, rfl⟩
    have HX : ∃ X, X = w.heap.size + 1 := ⟨_, rfl⟩
    obtain ⟨X, hX⟩ := HX
    have HB2 : Hid (Below w.heap.size w W2) := Lib.hid (by rw [hW2]; exact ((Below.refl w.heap.size w).alloc (Nat.le_refl _) _).alloc (by simp) _)
    have HR2 : Hid (W2.heap[w.heap.size]? = some (.cells #[.int .i64 0, .int .i64 0, .int .i64 0, .int .i64 0, .int .i64 0, .int .i64 0, .int .i64 0, .int .i64 0, .int .i64 0] 23 (0, 0))) := Lib.hid (by rw [hW2]; exact (Below.heap_alloc _ _ _ (by simp)).trans (heap_alloc_new w _))
    have HX2 : Hid (W2.heap[X]? = some (.cells #[.int .i64 0, .int .i64 0, .int .i64 0, .int .i64 0, .int .i64 0, .int .i64 0, .int .i64 0, .int .i64 0, .int .i64 0] 23 (0, 0))) := Lib.hid (by rw [hW2, hX]; have h := heap_alloc_new (w.alloc (.cells #[.int .i64 0, .int .i64 0, .int .i64 0, .int .i64 0, .int .i64 0, .int .i64 0, .int .i64 0, .int .i64 0, .int .i64 0] 23)) (.cells #[.int .i64 0, .int .i64 0, .int .i64 0, .int .i64 0, .int .i64 0, .int .i64 0, .int .i64 0, .int .i64 0, .int .i64 0] 23); simpa using h)
    have hxw : w.heap.size < X := by omega
    rw [← hW2, ← hX]
    clear hW2 hX
    have hxl := lt_of_block HX2.out
    have hrl := lt_of_block HR2.out
    have HS2 : Hid (Calls Tryd.prog 44 #[.string s, .string ⟨#[32]⟩] W2 fun e w' => e = .returned (.slice (some ⟨W2.heap.size, 0, none⟩) (n + 1) (n + 1)) ∧ w' = W2.alloc (.cells (wordsC s) 9)) := Lib.hid (by
      have h := HS.out W2 (HM.out.below HB2.out)
      have hwc : ((Lib.splitB ⟨#[32]⟩ 0 n s).map Value.string).toArray = wordsC s := by unfold wordsC wsOf; rw [← HN.out]
      rw [hwc] at h
      exact h)
    have HW3 := Lib.hid (heap_alloc_new W2 (.cells (wordsC s) 9))
    have HR3 := Lib.hid ((Below.heap_alloc W2 (.cells (wordsC s) 9) _ hrl).trans HR2.out)
    have HX3 := Lib.hid ((Below.heap_alloc W2 (.cells (wordsC s) 9) _ hxl).trans HX2.out)
    have HB3 := Lib.hid (HB2.out.alloc HB2.out.size (.cells (wordsC s) 9))
    clear HS
    obtain ⟨W3, hW3⟩ : ∃ W3, W3 = W2.alloc (.cells (wordsC s) 9) := ⟨_, rfl⟩
    rw [← hW3] at HS2 HW3 HR3 HX3 HB3
    clear hW3
    go_wp2_with fail
    refine HS2.out.mono ?_
    rintro e3 w3 ⟨rfl, rfl⟩
    go_wp2_with fail
    refine (numbersOf_any X w3 (lt_of_block HX3.out)).mono ?_
    rintro e4 w4 ⟨_, rfl, A, rfl, hA, hptr, hb4⟩
    have HR4 := Lib.hid ((hb4.block _ (lt_of_block HR3.out)).trans HR3.out)
    have HX4 := Lib.hid ((hb4.block _ (lt_of_block HX3.out)).trans HX3.out)
    have HW4 := Lib.hid ((hb4.block _ (lt_of_block HW3.out)).trans HW3.out)
    have HB4 := Lib.hid (HB3.out.trans (hb4.mono HB3.out.size))
    have hXA : X < A := by have := lt_of_block HX3.out; omega
    have hlR4 := lt_of_block HR4.out
    have hptr' : ∀ k, k < 9 → w4.cell? ⟨A, k, none⟩ = some (.pointer (some ⟨X, k, none⟩)) := fun k hk => by have h := hptr k hk; rwa [Nat.zero_add] at h
    have HPT := Lib.hid hptr'
    clear hb4 HR3 HX3 HW3 HB3 hptr hptr' hA HB2 HR2 HX2
    obtain ⟨z0, z1, z2, z3, z4, z5, z6, z7, z8⟩ := st_nine HR4.out
    obtain ⟨g0, g1, g2, g3, g4, g5, g6, g7, g8⟩ := st_nofrost HR4.out
    go_wp2_with fail
    refine bodyPost_ret (v := .tuple #[.agg #[.int .i64 0, .int .i64 0, .int .i64 0, .int .i64 0, .int .i64 0, .int .i64 0, .int .i64 0, .int .i64 0, .int .i64 0], .int .i64 8]) ?_ rfl ⟨HG.out, ?_⟩
    · simp only [results, Tryd.results17]
      go_simp
    · repeat (with_reducible refine Below.setCell ?_ (by simp) _)
      exact HB4.out
  case pos =>
    subst h8
    have HF := Lib.hid (fun x W => stateFault_any x W)
    go_enter Tryd.func17, Tryd.ntmps17
    go_upto_region 2 with fail
    obtain ⟨W2, hW2⟩ : ∃ W2, W2 = (w.alloc (.cells #[.int .i64 0, .int .i64 0, .int .i64 0, .int .i64 0, .int .i64 0, .int .i64 0, .int .i64 0, .int .i64 0, .int .i64 0] 23)).alloc (.cells #[.int .i64 0, .int .i64 0, .int .i64 0, .int .i64 0, .int .i64 0, .int .i64 0, .int .i64 0, .int .i64 0, .int .i64 0] 23) := ⟨_, rfl⟩
    have HX : ∃ X, X = w.heap.size + 1 := ⟨_, rfl⟩
    obtain ⟨X, hX⟩ := HX
    have HB2 : Hid (Below w.heap.size w W2) := Lib.hid (by rw [hW2]; exact ((Below.refl w.heap.size w).alloc (Nat.le_refl _) _).alloc (by simp) _)
    have HR2 : Hid (W2.heap[w.heap.size]? = some (.cells #[.int .i64 0, .int .i64 0, .int .i64 0, .int .i64 0, .int .i64 0, .int .i64 0, .int .i64 0, .int .i64 0, .int .i64 0] 23 (0, 0))) := Lib.hid (by rw [hW2]; exact (Below.heap_alloc _ _ _ (by simp)).trans (heap_alloc_new w _))
    have HX2 : Hid (W2.heap[X]? = some (.cells #[.int .i64 0, .int .i64 0, .int .i64 0, .int .i64 0, .int .i64 0, .int .i64 0, .int .i64 0, .int .i64 0, .int .i64 0] 23 (0, 0))) := Lib.hid (by rw [hW2, hX]; have h := heap_alloc_new (w.alloc (.cells #[.int .i64 0, .int .i64 0, .int .i64 0, .int .i64 0, .int .i64 0, .int .i64 0, .int .i64 0, .int .i64 0, .int .i64 0] 23)) (.cells #[.int .i64 0, .int .i64 0, .int .i64 0, .int .i64 0, .int .i64 0, .int .i64 0, .int .i64 0, .int .i64 0, .int .i64 0] 23); simpa using h)
    have hxw : w.heap.size < X := by omega
    rw [← hW2, ← hX]
    clear hW2 hX
    have hxl := lt_of_block HX2.out
    have hrl := lt_of_block HR2.out
    have HS2 : Hid (Calls Tryd.prog 44 #[.string s, .string ⟨#[32]⟩] W2 fun e w' => e = .returned (.slice (some ⟨W2.heap.size, 0, none⟩) 9 9) ∧ w' = W2.alloc (.cells (wordsC s) 9)) := Lib.hid (by
      have h := HS.out W2 (HM.out.below HB2.out)
      have hwc : ((Lib.splitB ⟨#[32]⟩ 0 8 s).map Value.string).toArray = wordsC s := by unfold wordsC wsOf; rw [← HN.out]
      rw [hwc] at h
      exact h)
    have HW3 := Lib.hid (heap_alloc_new W2 (.cells (wordsC s) 9))
    have HR3 := Lib.hid ((Below.heap_alloc W2 (.cells (wordsC s) 9) _ hrl).trans HR2.out)
    have HX3 := Lib.hid ((Below.heap_alloc W2 (.cells (wordsC s) 9) _ hxl).trans HX2.out)
    have HB3 := Lib.hid (HB2.out.alloc HB2.out.size (.cells (wordsC s) 9))
    clear HS
    obtain ⟨W3, hW3⟩ : ∃ W3, W3 = W2.alloc (.cells (wordsC s) 9) := ⟨_, rfl⟩
    rw [← hW3] at HS2 HW3 HR3 HX3 HB3
    clear hW3
    go_wp2_with fail
    refine HS2.out.mono ?_
    rintro e3 w3 ⟨rfl, rfl⟩
    go_wp2_with fail
    refine (numbersOf_any X w3 (lt_of_block HX3.out)).mono ?_
    rintro e4 w4 ⟨_, rfl, A, rfl, hA, hptr, hb4⟩
    have HR4 := Lib.hid ((hb4.block _ (lt_of_block HR3.out)).trans HR3.out)
    have HX4 := Lib.hid ((hb4.block _ (lt_of_block HX3.out)).trans HX3.out)
    have HW4 := Lib.hid ((hb4.block _ (lt_of_block HW3.out)).trans HW3.out)
    have HB4 := Lib.hid (HB3.out.trans (hb4.mono HB3.out.size))
    have hXA : X < A := by have := lt_of_block HX3.out; omega
    have hlR4 := lt_of_block HR4.out
    have hptr' : ∀ k, k < 9 → w4.cell? ⟨A, k, none⟩ = some (.pointer (some ⟨X, k, none⟩)) := fun k hk => by have h := hptr k hk; rwa [Nat.zero_add] at h
    have HPT := Lib.hid hptr'
    clear hb4 HR3 HX3 HW3 HB3 hptr hptr' hA HB2 HR2 HX2
    have HST : Hid (PhRow w s w.heap.size X W2.heap.size A 0 StV.zero w4) := Lib.hid ⟨HB4.out, HR4.out, HX4.out, HW4.out, HPT.out, fun j hj => by omega⟩
    clear HR4 HX4 HB4 HW4 HPT
    go_wp2_with fail
    go_loopw [27] (fun i wr => ∃ (k : Nat) (x : StV), k ≤ 9 ∧ i = .int .i64 k ∧ Hid (PhRow w s w.heap.size X W2.heap.size A k x wr)) (fun i _ => 9 - (intOf i).toNat)
    case atStart => exact ⟨0, StV.zero, by omega, rfl, HST⟩
    case round =>
      clear HST
      obtain ⟨k, x, hk, rfl, HR⟩ := hrel
      have hlX := lt_of_block HR.out.box
      have hlR := lt_of_block HR.out.res
      by_cases h9 : k < 9
      case neg =>
        have p1 : ¬ (k : Int) < 9 := by omega
        obtain rfl : k = 9 := by omega
        have hrd : Reads s (some x) := ⟨HN.out.symm, HR.out.got⟩
        have HFX := Lib.hid (HF.out x)
        have hxv : x.v = .agg #[.int .i64 x.bl, .int .i64 x.no, .int .i64 x.st, .int .i64 x.ea, .int .i64 x.du, .int .i64 x.la, .int .i64 x.ti, .int .i64 x.lp, .int .i64 x.bu] := rfl
        have hbx := HR.out.box
        rw [partC_nine] at hbx
        have HBX := Lib.hid hbx
        have HRS := Lib.hid HR.out.res
        have HB := Lib.hid HR.out.bel
        clear HF
        obtain ⟨y0, y1, y2, y3, y4, y5, y6, y7, y8⟩ := st_nine hbx
        clear hbx
        by_cases hE : stE x = 0
        case' pos =>
          have HG : Hid (RdGives s (.returned (.tuple #[x.v, .int .i64 0]))) := Lib.hid (Or.inr ⟨HSM.out, some x, hrd, by unfold readV; simp only [hE, if_true]⟩)
          rw [hE] at HFX
          rw [hxv] at HFX HG
          clear hE hrd hxv
        case' neg =>
          have HG : Hid (RdGives s (.returned (.tuple #[StV.zero.v, .int .i64 (stE x)]))) := Lib.hid (Or.inr ⟨HSM.out, some x, hrd, by unfold readV; simp only [hE, if_false]⟩)
          have hE' : (stE x != 0) = true := bne_iff_ne.2 hE
          rw [hxv] at HFX
          rw [zero_v] at HG
          clear hE hrd hxv
          generalize stE x = E at *
        all_goals
          go_wp2_with fail
          refine (HFX.out _).mono ?_
          rintro e7 w7 ⟨rfl, hb7⟩
          have HB7 := Lib.hid (HB.out.trans (hb7.mono HB.out.size))
          have hr7 := (hb7.block _ (lt_of_block HRS.out)).trans HRS.out
          have hx7 := (hb7.block _ (lt_of_block HBX.out)).trans HBX.out
          have hlR7 := lt_of_block hr7
          clear hb7 y0 y1 y2 y3 y4 y5 y6 y7 y8
          obtain ⟨z0, z1, z2, z3, z4, z5, z6, z7, z8⟩ := st_nine hr7
          obtain ⟨g0, g1, g2, g3, g4, g5, g6, g7, g8⟩ := st_nofrost hr7
          obtain ⟨y0, y1, y2, y3, y4, y5, y6, y7, y8⟩ := st_nine hx7
          clear hr7 hx7
          go_wp2_with fail
        · refine bodyPost_ret (v := .tuple #[.agg #[.int .i64 0, .int .i64 0, .int .i64 0, .int .i64 0, .int .i64 0, .int .i64 0, .int .i64 0, .int .i64 0, .int .i64 0], .int .i64 E]) ?_ rfl ⟨HG.out, ?_⟩
          · simp only [results, Tryd.results17]
            go_simp
          · repeat (with_reducible refine Below.setCell ?_ (by simp) _)
            exact HB7.out
        · refine bodyPost_ret (v := .tuple #[.agg #[.int .i64 x.bl, .int .i64 x.no, .int .i64 x.st, .int .i64 x.ea, .int .i64 x.du, .int .i64 x.la, .int .i64 x.ti, .int .i64 x.lp, .int .i64 x.bu], .int .i64 0]) ?_ rfl ⟨HG.out, ?_⟩
          · simp only [results, Tryd.results17]
            go_simp
          · repeat (with_reducible refine Below.setCell ?_ (by simp) _)
            exact HB7.out
      case pos =>
        have p1 : (k : Int) < 9 := by omega
        have hkl : k < (wsOf s).length := by have := HLEN.out; omega
        have hcw : wr.cell? ⟨W2.heap.size, k, none⟩ = some (.string (wAt s k)) := by rw [cell_of_row wr _ k _ _ _ HR.out.wrd]; exact wordsC_at s k hkl
        have HNO := Lib.hid (digits_full (wAt s k) wr (by have := wAt_le s k hkl; have := HSM.out; omega) (HE.out.below HR.out.bel))
        obtain ⟨WD, hWD⟩ : ∃ WD, WD = wAt s k := ⟨_, rfl⟩
        have HWD := Lib.hid hWD
        rw [← hWD] at hcw HNO
        have hcp := HR.out.ptr k h9
        clear hWD
        go_wp2_with fail
        refine HNO.out.mono ?_
        rintro e6 w6 ⟨⟨n6, rfl, hn6⟩, hb6⟩
        have HR6 : Hid (PhRow w s w.heap.size X W2.heap.size A k x w6) := Lib.hid ⟨HR.out.bel.trans (hb6.mono HR.out.bel.size), (hb6.block _ (lt_of_block HR.out.res)).trans HR.out.res, (hb6.block _ (lt_of_block HR.out.box)).trans HR.out.box, (hb6.block _ (lt_of_block HR.out.wrd)).trans HR.out.wrd, fun j hj => keepC (HR.out.ptr j hj) hb6, HR.out.got⟩
        clear hb6 hcw HNO hcp
        cases hw : wordE WD.data.toList with
        | none =>
          have HG : Hid (RdGives s (.returned (.tuple #[StV.zero.v, .int .i64 8]))) := Lib.hid (Or.inr ⟨HSM.out, none, Or.inr ⟨k, h9, by rw [← HWD.out]; exact hw⟩, rfl⟩)
          rw [zero_v] at HG
          have hlR6 := lt_of_block HR6.out.res
          obtain ⟨q0, q1, q2, q3, q4, q5, q6, q7, q8⟩ := st_nine HR6.out.res
          obtain ⟨g0, g1, g2, g3, g4, g5, g6, g7, g8⟩ := st_nofrost HR6.out.res
          have HB := Lib.hid HR6.out.bel
          have his : (none : Option Int).isSome = false := rfl
          clear hn6 hw
          rw [his]
          clear his
          go_wp2_with fail
          refine bodyPost_ret (v := .tuple #[.agg #[.int .i64 0, .int .i64 0, .int .i64 0, .int .i64 0, .int .i64 0, .int .i64 0, .int .i64 0, .int .i64 0, .int .i64 0], .int .i64 8]) ?_ rfl ⟨HG.out, ?_⟩
          · simp only [results, Tryd.results17]
            go_simp
          · repeat (with_reducible refine Below.setCell ?_ (by simp) _)
            exact HB.out
        | some y =>
          obtain rfl : n6 = y := hn6 y hw
          have HW : Hid (wordE (wAt s k).data.toList = some n6) := Lib.hid (by rw [← HWD.out]; exact hw)
          have HPUT := Lib.hid (setF_put x k n6 h9)
          have his : (some n6 : Option Int).isSome = true := rfl
          clear hn6 hw HWD
          rw [his]
          clear his
          have hcx : w6.cell? ⟨X, k, none⟩ = some (.int .i64 0) := by rw [cell_of_row w6 _ k _ _ _ HR6.out.box]; exact partC_at x k h9
          have hfx := frozen_of_row w6 X k _ _ HR6.out.box
          go_wp2_with fail
          go_roundw
          case rel =>
            refine ⟨k + 1, setF x k n6, by omega, by go_num, Lib.hid ⟨HR6.out.bel.setCell (by simp; omega) _, ?_, ?_, ?_, ?_, ?_⟩⟩
            · exact (heap_setCell_other _ _ _ _ (by simp; omega)).trans HR6.out.res
            · rw [← HPUT.out]; exact heap_setCell_same w6 X k _ _ _ HR6.out.box
            · exact (heap_setCell_other _ _ _ _ (by simp; omega)).trans HR6.out.wrd
            · intro j hj
              exact (World.cell?_setCell_other _ _ _ _ (by intro e; have := congrArg Addr.block e; simp at this; omega)).trans (HR6.out.ptr j hj)
            · intro j hj
              by_cases hjk : j = k
              · subst hjk
                rw [setF_same x j n6 h9]
                exact HW.out
              · rw [setF_other x k j n6 h9 (by omega)]
                exact HR6.out.got j (by omega)
          case measure => simp [intOf]; omega
end Go.Proofs.YtnellkdiafglgaaDoor
