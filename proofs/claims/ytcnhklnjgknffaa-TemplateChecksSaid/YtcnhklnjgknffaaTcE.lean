/- Templates: readField of the program. -/
import Derived.Test.YtcnhklnjgknffaaTcD
namespace Go.Proofs.Ytcnhklnjgknffaa
open Go.RowKit Go.Shelf

/-- What readField gives. -/
def FieldGives (s : ByteArray) (a : Nat) (w : World) (e : Ending) (w' : World) : Prop :=
  Below w.heap.size w w' ∧ match fieldAt s a with
    | .bad p => e = .returned (.tuple #[.agg #[.string ⟨#[]⟩, .bool false, .string ⟨#[]⟩], .int .i64 p, .bool false])
    | .good k e2 => ∃ (ho : Bool) (tx : ByteArray), tx.size ≤ 400000 ∧ e = .returned (.tuple #[.agg #[.string (s.extract a k), .bool ho, .string tx], .int .i64 e2, .bool true])
theorem fieldGives_bad {s : ByteArray} {a : Nat} {w w' : World} {p : Nat} (h : fieldAt s a = .bad p) (hb : Below w.heap.size w w') : FieldGives s a w (.returned (.tuple #[.agg #[.string ⟨#[]⟩, .bool false, .string ⟨#[]⟩], .int .i64 p, .bool false])) w' := by
  unfold FieldGives
  rw [h]
  exact ⟨hb, rfl⟩

set_option maxRecDepth 100000 in
set_option maxHeartbeats 8000000 in
theorem readField_any (s : ByteArray) (a : Nat) (w : World) (hs : s.size ≤ 400000) (ha : a ≤ s.size) :
    Calls Try.prog 15 #[.string s, .int .i64 a] w (FieldGives s a w) := by
  have HNE := Lib.hid (fun W => nameEnd_any s a W hs ha)
  by_cases h0 : nmEnd s a = a
  · have HF := Lib.hid (fun w' hb => fieldGives_bad (w := w) (w' := w') (s := s) (a := a) (p := nmEnd s a) (by unfold fieldAt; rw [if_pos h0]) hb)
    rw [h0] at HF HNE
    clear h0
    go_enter Try.func15, Try.ntmps15
    go_wp2_with fail
    refine (HNE.out _).mono ?_
    rintro e1 w1 ⟨rfl, rfl⟩
    go_wp2_with fail
    exact bodyPost_ret (v := .tuple #[.agg #[.string ⟨#[]⟩, .bool false, .string ⟨#[]⟩], .int .i64 a, .bool false]) (by simp [results, Try.results15, go_sem]) rfl (HF.out _ ((Below.refl _ _).alloc (Nat.le_refl _) _))
  · have hk := nmE_le s 20 a ha
    have hg := nmE_ge s 20 a
    have HFA : Hid (fieldAt s a = if bAt s (fEnd s (nmEnd s a)) ≠ 125 then .bad (fEnd s (nmEnd s a)) else if bAt s (fEnd s (nmEnd s a) + 1) ≠ 125 then .bad (fEnd s (nmEnd s a) + 1) else .good (nmEnd s a) (fEnd s (nmEnd s a) + 2)) := Lib.hid (by unfold fieldAt; rw [if_neg h0])
    change nmEnd s a ≤ s.size at hk
    change a ≤ nmEnd s a at hg
    have q0 : ((nmEnd s a : Int) == (a : Int)) = false := by simp; omega
    have HE : Hid (fEnd s (nmEnd s a) = if bAt s (nmEnd s a) = 124 then oEnd s (nmEnd s a + 1) else nmEnd s a) := Lib.hid rfl
    have he := fEnd_le hk
    have HH := Lib.hid (fun i c => has1 s i c)
    generalize nmEnd s a = k at *
    have hsk : (s.extract a k).size ≤ 400000 := by rw [ByteArray.size_extract]; omega
    have p1 : (a : Int) ≤ k := by omega
    have p2 : (k : Int) ≤ s.size := by omega
    have HP : ∀ (i : Nat) (c : UInt8) W, Calls Try.prog 14 #[.string (s.extract i s.size), .string ⟨#[c]⟩] W fun e w' => e = .returned (.bool (decide (bAt s i = (c.toNat : Int)))) ∧ w' = W := fun i c W => (Try.strings_HasPrefix _ _ W).mono fun e w' ⟨h1, h2⟩ => ⟨by rw [h1]; exact ret_bool (has1 s i c), h2⟩
    have HPF := Lib.hid HP
    clear HP h0
    go_enter Try.func15, Try.ntmps15
    go_wp2_with fail
    refine (HNE.out _).mono ?_
    rintro e1 w1 ⟨rfl, rfl⟩
    go_wp2_with fail
    refine (HPF.out k 124 _).mono ?_
    rintro e2 w2 ⟨rfl, rfl⟩
    by_cases hbar : bAt s k = 124
    case' pos =>
      rw [if_pos hbar] at HE
      have hklt : k < s.size := bAt_lt (by rw [hbar]; decide)
      have hge := oEnd_ge s (k + 1) hklt
      have HOE := Lib.hid (fun W => otherEnd_any s (k + 1) W hs hklt)
      rw [HE.out] at he HFA
      generalize oEnd s (k + 1) = e0 at he HFA HOE hge
      rw [show decide (bAt s k = ((124 : UInt8).toNat : Int)) = true from decide_eq_true hbar]
      clear hbar HE
      have p3 : (k : Int) + 1 ≤ e0 := by omega
      have p4 : (e0 : Int) ≤ s.size := by omega
      have htx : (s.extract (k + 1) e0).size ≤ 400000 := by rw [ByteArray.size_extract]; omega
      go_wp2_with fail
      refine (HOE.out _).mono ?_
      rintro e3 w3 ⟨rfl, hb3⟩
      have hbl3 : w3.heap[w.heap.size]? = some (.cells #[.string (s.extract a k), .bool false, .string ⟨#[]⟩] 39 (0, 0)) := (hb3.block _ (by simp)).trans (heap_alloc_new w _)
      have HB3 := Lib.hid (((Below.refl _ w).alloc (Nat.le_refl _) (.cells #[.string (s.extract a k), .bool false, .string ⟨#[]⟩] 39)).trans (hb3.mono (by simp)))
      have y0 : w3.cell? ⟨w.heap.size, 0, none⟩ = some (.string (s.extract a k)) := cell_of_row w3 _ 0 _ _ (0, 0) hbl3
      have y1 : w3.cell? ⟨w.heap.size, 1, none⟩ = some (.bool false) := cell_of_row w3 _ 1 _ _ (0, 0) hbl3
      have y2 : w3.cell? ⟨w.heap.size, 2, none⟩ = some (.string ⟨#[]⟩) := cell_of_row w3 _ 2 _ _ (0, 0) hbl3
      have z0 := frozen_of_row w3 w.heap.size 0 _ _ hbl3
      have z1 := frozen_of_row w3 w.heap.size 1 _ _ hbl3
      have z2 := frozen_of_row w3 w.heap.size 2 _ _ hbl3
      have HBL3 := Lib.hid hbl3
      have hsl : ∀ W : World, (Instr.slice 9 (.string s) (some (.int .i64 ((k : Int) + 1))) (some (.int .i64 (e0 : Int))) none).run Try.prog W = .ok (.string (s.extract (k + 1) e0)) W := fun W => by
        rw [run_slice_string W _ _ _ _ _ _ Try.underlying9 (by omega) (by omega) (by omega), show ((k : Int) + 1).toNat = k + 1 by omega, Int.toNat_natCast]
      clear hb3 hbl3
      go_wp2_with fail
      go_region
      go_wp2_with fail
      obtain ⟨W, hW⟩ : ∃ W, W = ((w3.setCell ⟨w.heap.size, 1, none⟩ (.bool true)).setCell ⟨w.heap.size, 2, none⟩ (.string (s.extract (k + 1) e0))).drew := ⟨_, rfl⟩
      have hbl : W.heap[w.heap.size]? = some (.cells #[.string (s.extract a k), .bool true, .string (s.extract (k + 1) e0)] 39 (0, 0)) := by
        rw [hW]
        exact heap_setCell_same _ _ _ _ _ _ (heap_setCell_same _ _ _ _ _ _ HBL3.out)
      have HBW : Hid (Below w.heap.size w W) := Lib.hid (by
        rw [hW]
        have h := (HB3.out.setCell (p := ⟨w.heap.size, 1, none⟩) (Nat.le_refl _) (.bool true)).setCell (p := ⟨w.heap.size, 2, none⟩) (Nat.le_refl _) (.string (s.extract (k + 1) e0))
        exact ⟨h.os, h.tape, h.output, h.size, h.block⟩)
      rw [← hW]
      clear hW HBL3 y0 y1 y2 z0 z1 z2
      have HBC := Lib.hid hbl
      go_loopw [5, 36] (fun ev iv wx => ∃ j : Nat, iv = .int .i64 j ∧ j ≤ 2 ∧ ev = .int .i64 ((e0 + j : Nat) : Int) ∧ wx = W ∧ Hid (0 < j → bAt s e0 = 125) ∧ Hid (1 < j → bAt s (e0 + 1) = 125)) (fun _ iv _ => 2 - (intOf iv).toNat)
      case atStart => exact ⟨0, rfl, Nat.zero_le _, rfl, rfl, Lib.hid (fun h => absurd h (Nat.lt_irrefl _)), Lib.hid (fun h => absurd h (by decide))⟩
      case round =>
        obtain ⟨j, rfl, hj2, rfl, rfl, HJ0, HJ1⟩ := hrel
        clear hbl
        rcases (by omega : j = 0 ∨ j = 1 ∨ j = 2) with rfl | rfl | rfl
        · by_cases hc : bAt s e0 = 125
          · have hlt : e0 < s.size := bAt_lt (by rw [hc]; decide)
            have HP0 := Lib.hid (HPF.out e0 125 wr)
            rw [show decide (bAt s e0 = ((125 : UInt8).toNat : Int)) = true from decide_eq_true hc] at HP0
            have HC0 := Lib.hid hc
            have p5 : (e0 : Int) ≤ s.size := by omega
            clear hc
            go_wp2_with (go_at_call 14; refine HP0.out.mono ?_; rintro e4 w4 ⟨rfl, rfl⟩)
            go_roundw
            case rel => exact ⟨1, by go_num, by omega, by go_num, by trivial, Lib.hid (fun _ => HC0.out), Lib.hid (fun h => absurd h (Nat.lt_irrefl _))⟩
            case measure => simp [intOf]
          · have HP0 := Lib.hid (HPF.out e0 125 wr)
            rw [show decide (bAt s e0 = ((125 : UInt8).toNat : Int)) = false from decide_eq_false hc] at HP0
            have HF := Lib.hid (fun w' hb => fieldGives_bad (w := w) (w' := w') (s := s) (a := a) (p := e0) (by rw [HFA.out, if_pos hc]) hb)
            have p5 : (e0 : Int) ≤ s.size := by omega
            have x0 := cell_of_row wr _ 0 _ _ (0, 0) HBC.out
            have x1 := cell_of_row wr _ 1 _ _ (0, 0) HBC.out
            have x2 := cell_of_row wr _ 2 _ _ (0, 0) HBC.out
            have f0 := frozen_of_row wr w.heap.size 0 _ _ HBC.out
            have f1 := frozen_of_row wr w.heap.size 1 _ _ HBC.out
            have f2 := frozen_of_row wr w.heap.size 2 _ _ HBC.out
            clear hc
            go_wp2_with (go_at_call 14; refine HP0.out.mono ?_; rintro e4 w4 ⟨rfl, rfl⟩)
            exact bodyPost_ret (v := .tuple #[.agg #[.string ⟨#[]⟩, .bool false, .string ⟨#[]⟩], .int .i64 e0, .bool false]) (by simp [results, Try.results15, go_sem, x0, x1, x2]) rfl (HF.out _ (((HBW.out.setCell (Nat.le_refl _) _).setCell (Nat.le_refl _) _).setCell (Nat.le_refl _) _))
        · have hc0 := HJ0.out (by omega)
          have hlt0 : e0 < s.size := bAt_lt (by rw [hc0]; decide)
          by_cases hc : bAt s (e0 + 1) = 125
          · have hlt : e0 + 1 < s.size := bAt_lt (by rw [hc]; decide)
            have HP0 := Lib.hid (HPF.out (e0 + 1) 125 wr)
            rw [show decide (bAt s (e0 + 1) = ((125 : UInt8).toNat : Int)) = true from decide_eq_true hc] at HP0
            have HC0 := Lib.hid hc
            have p5 : ((e0 + 1 : Nat) : Int) ≤ s.size := by omega
            clear hc hc0
            go_wp2_with (go_at_call 14; refine HP0.out.mono ?_; rintro e4 w4 ⟨rfl, rfl⟩)
            go_roundw
            case rel => exact ⟨2, by go_num, by omega, by go_num, by trivial, Lib.hid (fun _ => HJ0.out (by omega)), Lib.hid (fun _ => HC0.out)⟩
            case measure => simp [intOf]
          · have HP0 := Lib.hid (HPF.out (e0 + 1) 125 wr)
            rw [show decide (bAt s (e0 + 1) = ((125 : UInt8).toNat : Int)) = false from decide_eq_false hc] at HP0
            have HF := Lib.hid (fun w' hb => fieldGives_bad (w := w) (w' := w') (s := s) (a := a) (p := e0 + 1) (by rw [HFA.out, if_neg (fun h => h hc0), if_pos hc]) hb)
            have p5 : ((e0 + 1 : Nat) : Int) ≤ s.size := by omega
            have x0 := cell_of_row wr _ 0 _ _ (0, 0) HBC.out
            have x1 := cell_of_row wr _ 1 _ _ (0, 0) HBC.out
            have x2 := cell_of_row wr _ 2 _ _ (0, 0) HBC.out
            have f0 := frozen_of_row wr w.heap.size 0 _ _ HBC.out
            have f1 := frozen_of_row wr w.heap.size 1 _ _ HBC.out
            have f2 := frozen_of_row wr w.heap.size 2 _ _ HBC.out
            clear hc hc0
            go_wp2_with (go_at_call 14; refine HP0.out.mono ?_; rintro e4 w4 ⟨rfl, rfl⟩)
            exact bodyPost_ret (v := .tuple #[.agg #[.string ⟨#[]⟩, .bool false, .string ⟨#[]⟩], .int .i64 ((e0 + 1 : Nat) : Int), .bool false]) (by simp [results, Try.results15, go_sem, x0, x1, x2]) rfl (HF.out _ (((HBW.out.setCell (Nat.le_refl _) _).setCell (Nat.le_refl _) _).setCell (Nat.le_refl _) _))
        · have hc0 := HJ0.out (by omega)
          have hc1 := HJ1.out (by omega)
          have HG : Hid (∀ w', Below w.heap.size w w' → FieldGives s a w (.returned (.tuple #[.agg #[.string (s.extract a k), .bool true, .string (s.extract (k + 1) e0)], .int .i64 ((e0 + 2 : Nat) : Int), .bool true])) w') := Lib.hid (fun w' hb => by
            unfold FieldGives
            rw [HFA.out, if_neg (fun h => h hc0), if_neg (fun h => h hc1)]
            exact ⟨hb, true, (s.extract (k + 1) e0), htx, by first | rfl | rw [HE0.out]⟩)
          have x0 : wr.cell? ⟨w.heap.size, 0, none⟩ = some (.string (s.extract a k)) := cell_of_row wr _ 0 _ _ (0, 0) HBC.out
          have x1 : wr.cell? ⟨w.heap.size, 1, none⟩ = some (.bool true) := cell_of_row wr _ 1 _ _ (0, 0) HBC.out
          have x2 : wr.cell? ⟨w.heap.size, 2, none⟩ = some (.string (s.extract (k + 1) e0)) := cell_of_row wr _ 2 _ _ (0, 0) HBC.out
          have f0 := frozen_of_row wr w.heap.size 0 _ _ HBC.out
          have f1 := frozen_of_row wr w.heap.size 1 _ _ HBC.out
          have f2 := frozen_of_row wr w.heap.size 2 _ _ HBC.out
          clear hc0 hc1
          go_wp2_with fail
          exact bodyPost_ret (v := .tuple #[.agg #[.string (s.extract a k), .bool true, .string (s.extract (k + 1) e0)], .int .i64 ((e0 + 2 : Nat) : Int), .bool true]) (by simp [results, Try.results15, go_sem, x0, x1, x2]) rfl (HG.out _ (((HBW.out.setCell (Nat.le_refl _) _).setCell (Nat.le_refl _) _).setCell (Nat.le_refl _) _))

    case' neg =>
      rw [if_neg hbar] at HE
      rw [HE.out] at he HFA
      rw [show decide (bAt s k = ((124 : UInt8).toNat : Int)) = false from decide_eq_false hbar]
      clear hbar HE
      obtain ⟨e0, he0⟩ : ∃ e0, e0 = k := ⟨_, rfl⟩
      rw [← he0] at HFA he
      have HE0 := Lib.hid he0
      clear he0
      go_wp2_with fail
      obtain ⟨W, hW⟩ : ∃ W, W = w.alloc (.cells #[.string (s.extract a k), .bool false, .string ⟨#[]⟩] 39) := ⟨_, rfl⟩
      have hbl : W.heap[w.heap.size]? = some (.cells #[.string (s.extract a k), .bool false, .string ⟨#[]⟩] 39 (0, 0)) := by
        rw [hW]
        exact heap_alloc_new w _
      have HBW : Hid (Below w.heap.size w W) := Lib.hid (by rw [hW]; exact (Below.refl _ _).alloc (Nat.le_refl _) _)
      rw [← hW]
      clear hW
      have HBC := Lib.hid hbl
      go_loopw [5, 36] (fun ev iv wx => ∃ j : Nat, iv = .int .i64 j ∧ j ≤ 2 ∧ ev = .int .i64 ((e0 + j : Nat) : Int) ∧ wx = W ∧ Hid (0 < j → bAt s e0 = 125) ∧ Hid (1 < j → bAt s (e0 + 1) = 125)) (fun _ iv _ => 2 - (intOf iv).toNat)
      case atStart => exact ⟨0, rfl, Nat.zero_le _, by rw [HE0.out]; rfl, rfl, Lib.hid (fun h => absurd h (Nat.lt_irrefl _)), Lib.hid (fun h => absurd h (by decide))⟩
      case round =>
        obtain ⟨j, rfl, hj2, rfl, rfl, HJ0, HJ1⟩ := hrel
        clear hbl
        rcases (by omega : j = 0 ∨ j = 1 ∨ j = 2) with rfl | rfl | rfl
        · by_cases hc : bAt s e0 = 125
          · have hlt : e0 < s.size := bAt_lt (by rw [hc]; decide)
            have HP0 := Lib.hid (HPF.out e0 125 wr)
            rw [show decide (bAt s e0 = ((125 : UInt8).toNat : Int)) = true from decide_eq_true hc] at HP0
            have HC0 := Lib.hid hc
            have p5 : (e0 : Int) ≤ s.size := by omega
            clear hc
            go_wp2_with (go_at_call 14; refine HP0.out.mono ?_; rintro e4 w4 ⟨rfl, rfl⟩)
            go_roundw
            case rel => exact ⟨1, by go_num, by omega, by go_num, by trivial, Lib.hid (fun _ => HC0.out), Lib.hid (fun h => absurd h (Nat.lt_irrefl _))⟩
            case measure => simp [intOf]
          · have HP0 := Lib.hid (HPF.out e0 125 wr)
            rw [show decide (bAt s e0 = ((125 : UInt8).toNat : Int)) = false from decide_eq_false hc] at HP0
            have HF := Lib.hid (fun w' hb => fieldGives_bad (w := w) (w' := w') (s := s) (a := a) (p := e0) (by rw [HFA.out, if_pos hc]) hb)
            have p5 : (e0 : Int) ≤ s.size := by omega
            have x0 := cell_of_row wr _ 0 _ _ (0, 0) HBC.out
            have x1 := cell_of_row wr _ 1 _ _ (0, 0) HBC.out
            have x2 := cell_of_row wr _ 2 _ _ (0, 0) HBC.out
            have f0 := frozen_of_row wr w.heap.size 0 _ _ HBC.out
            have f1 := frozen_of_row wr w.heap.size 1 _ _ HBC.out
            have f2 := frozen_of_row wr w.heap.size 2 _ _ HBC.out
            clear hc
            go_wp2_with (go_at_call 14; refine HP0.out.mono ?_; rintro e4 w4 ⟨rfl, rfl⟩)
            exact bodyPost_ret (v := .tuple #[.agg #[.string ⟨#[]⟩, .bool false, .string ⟨#[]⟩], .int .i64 e0, .bool false]) (by simp [results, Try.results15, go_sem, x0, x1, x2]) rfl (HF.out _ (((HBW.out.setCell (Nat.le_refl _) _).setCell (Nat.le_refl _) _).setCell (Nat.le_refl _) _))
        · have hc0 := HJ0.out (by omega)
          have hlt0 : e0 < s.size := bAt_lt (by rw [hc0]; decide)
          by_cases hc : bAt s (e0 + 1) = 125
          · have hlt : e0 + 1 < s.size := bAt_lt (by rw [hc]; decide)
            have HP0 := Lib.hid (HPF.out (e0 + 1) 125 wr)
            rw [show decide (bAt s (e0 + 1) = ((125 : UInt8).toNat : Int)) = true from decide_eq_true hc] at HP0
            have HC0 := Lib.hid hc
            have p5 : ((e0 + 1 : Nat) : Int) ≤ s.size := by omega
            clear hc hc0
            go_wp2_with (go_at_call 14; refine HP0.out.mono ?_; rintro e4 w4 ⟨rfl, rfl⟩)
            go_roundw
            case rel => exact ⟨2, by go_num, by omega, by go_num, by trivial, Lib.hid (fun _ => HJ0.out (by omega)), Lib.hid (fun _ => HC0.out)⟩
            case measure => simp [intOf]
          · have HP0 := Lib.hid (HPF.out (e0 + 1) 125 wr)
            rw [show decide (bAt s (e0 + 1) = ((125 : UInt8).toNat : Int)) = false from decide_eq_false hc] at HP0
            have HF := Lib.hid (fun w' hb => fieldGives_bad (w := w) (w' := w') (s := s) (a := a) (p := e0 + 1) (by rw [HFA.out, if_neg (fun h => h hc0), if_pos hc]) hb)
            have p5 : ((e0 + 1 : Nat) : Int) ≤ s.size := by omega
            have x0 := cell_of_row wr _ 0 _ _ (0, 0) HBC.out
            have x1 := cell_of_row wr _ 1 _ _ (0, 0) HBC.out
            have x2 := cell_of_row wr _ 2 _ _ (0, 0) HBC.out
            have f0 := frozen_of_row wr w.heap.size 0 _ _ HBC.out
            have f1 := frozen_of_row wr w.heap.size 1 _ _ HBC.out
            have f2 := frozen_of_row wr w.heap.size 2 _ _ HBC.out
            clear hc hc0
            go_wp2_with (go_at_call 14; refine HP0.out.mono ?_; rintro e4 w4 ⟨rfl, rfl⟩)
            exact bodyPost_ret (v := .tuple #[.agg #[.string ⟨#[]⟩, .bool false, .string ⟨#[]⟩], .int .i64 ((e0 + 1 : Nat) : Int), .bool false]) (by simp [results, Try.results15, go_sem, x0, x1, x2]) rfl (HF.out _ (((HBW.out.setCell (Nat.le_refl _) _).setCell (Nat.le_refl _) _).setCell (Nat.le_refl _) _))
        · have hc0 := HJ0.out (by omega)
          have hc1 := HJ1.out (by omega)
          have HG : Hid (∀ w', Below w.heap.size w w' → FieldGives s a w (.returned (.tuple #[.agg #[.string (s.extract a k), .bool false, .string ⟨#[]⟩], .int .i64 ((e0 + 2 : Nat) : Int), .bool true])) w') := Lib.hid (fun w' hb => by
            unfold FieldGives
            rw [HFA.out, if_neg (fun h => h hc0), if_neg (fun h => h hc1)]
            exact ⟨hb, false, ⟨#[]⟩, (by show (0 : Nat) ≤ 400000; decide), by first | rfl | rw [HE0.out]⟩)
          have x0 : wr.cell? ⟨w.heap.size, 0, none⟩ = some (.string (s.extract a k)) := cell_of_row wr _ 0 _ _ (0, 0) HBC.out
          have x1 : wr.cell? ⟨w.heap.size, 1, none⟩ = some (.bool false) := cell_of_row wr _ 1 _ _ (0, 0) HBC.out
          have x2 : wr.cell? ⟨w.heap.size, 2, none⟩ = some (.string ⟨#[]⟩) := cell_of_row wr _ 2 _ _ (0, 0) HBC.out
          have f0 := frozen_of_row wr w.heap.size 0 _ _ HBC.out
          have f1 := frozen_of_row wr w.heap.size 1 _ _ HBC.out
          have f2 := frozen_of_row wr w.heap.size 2 _ _ HBC.out
          clear hc0 hc1
          go_wp2_with fail
          exact bodyPost_ret (v := .tuple #[.agg #[.string (s.extract a k), .bool false, .string ⟨#[]⟩], .int .i64 ((e0 + 2 : Nat) : Int), .bool true]) (by simp [results, Try.results15, go_sem, x0, x1, x2]) rfl (HG.out _ (((HBW.out.setCell (Nat.le_refl _) _).setCell (Nat.le_refl _) _).setCell (Nat.le_refl _) _))

end Go.Proofs.Ytcnhklnjgknffaa
