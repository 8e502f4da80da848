/- Properties: checkFields. -/
import Derived.Test.YtggnocajpnmemaaGreatDoorPtG
import Derived.WalkKit
import Derived.Lib.Hide
import Derived.Outline
import Derived.Below
import Derived.Deep.QuietTactic
import Derived.BigQuiet
namespace Go.Proofs.YtggnocajpnmemaaGreatDoor
open Go.RowKit Go.Shelf

theorem textE_eq (s : ByteArray) : checkV s = textE s := rfl
theorem fields_kind {k i t : Int} {s : ByteArray} {n : Nat} (h : ¬ (0 ≤ k ∧ k ≤ 7)) : fieldsE k i t s n = 10 := by unfold fieldsE; rw [if_pos h]
theorem fields_unused {k i t : Int} {s : ByteArray} {n : Nat} (h : 0 ≤ k ∧ k ≤ 7) (h1 : unusedB k i t s n = true) : fieldsE k i t s n = 1 := by unfold fieldsE; rw [if_neg (by simpa using h), if_pos h1]
theorem fields_in {k i t : Int} {s : ByteArray} {n : Nat} (h : 0 ≤ k ∧ k ≤ 7) (h1 : unusedB k i t s n = false) : fieldsE k i t s n =
    (if k = 1 then rangeE i 0 1 else if k = 2 then rangeE i (-1000000000) 1000000000 else if k = 4 then rangeE i 0 100000 else if k = 5 then daysE i t else if k = 3 then textE s else if k = 6 then titleE s else 0) := by
  unfold fieldsE daysE; rw [if_neg (by simpa using h), if_neg (by simp [h1])]

set_option maxRecDepth 100000 in
set_option maxHeartbeats 8000000 in
theorem checkFields_any (k i t : Int) (s : ByteArray) (A : Option Addr) (n c : Nat) (w : World) (hz : s.size ≤ 1048576) (hn : n ≤ 1048576) :
    Calls Tryz.prog 40 #[.agg #[.int .i64 k, .int .i64 i, .int .i64 t, .string s, .slice A n c]] w (Quiet w (.int .i64 (fieldsE k i t s n))) := by
  have HK := Lib.hid (fun W => isKind_any k W)
  by_cases hk : 0 ≤ k ∧ k ≤ 7
  · rw [show inR k 0 7 = true from decide_eq_true hk] at HK
    have HU := Lib.hid (fun W => hasUnused_any k i t s A n c W hk hz hn)
    cases hu : unusedB k i t s n with
    | true =>
      have HE := Lib.hid (fields_unused hk hu)
      rw [hu] at HU
      clear hu hk
      go_enter Tryz.func40, Tryz.ntmps40
      go_wp2_with fail
      refine (HK.out _).mono ?_
      rintro e1 w1 ⟨rfl, hw⟩
      rw [hw]
      clear hw w1
      go_wp2_with fail
      refine (HU.out _).mono ?_
      rintro e2 w2 ⟨rfl, hb2⟩
      have HB := Lib.hid (((Below.refl _ w).alloc (Nat.le_refl _) _).trans (hb2.mono (by simp)))
      clear hb2
      go_wp2_with fail
      go_ret
      exact ⟨ret_int HE.out.symm, HB.out⟩
    | false =>
      have HE := Lib.hid (fields_in hk hu)
      rw [hu] at HU
      clear hu
      have hk8 : k = 0 ∨ k = 1 ∨ k = 2 ∨ k = 3 ∨ k = 4 ∨ k = 5 ∨ k = 6 ∨ k = 7 := by omega
      clear hk
      have HW : Hid (∀ (o : Obj) (w2 : World), Below (w.alloc o).heap.size (w.alloc o) w2 → Below w.heap.size w w2 ∧ w2.heap[w.heap.size]? = some o) := Lib.hid (fun o w2 hb => ⟨((Below.refl _ w).alloc (Nat.le_refl _) o).trans (hb.mono (by simp)), (hb.block _ (by simp)).trans (heap_alloc_new w o)⟩)
      rcases hk8 with rfl | rfl | rfl | rfl | rfl | rfl | rfl | rfl
      all_goals
        go_enter Tryz.func40, Tryz.ntmps40
        go_wp2_with fail
        refine (HK.out _).mono ?_
        rintro e1 w1 ⟨rfl, hw⟩
        rw [hw]
        clear hw w1
        go_wp2_with fail
        refine (HU.out _).mono ?_
        rintro e2 w2 ⟨rfl, hb2⟩
        obtain ⟨hb3, hblk⟩ := HW.out _ _ hb2
        have c0 := cell_of_row w2 w.heap.size 0 _ _ (0, 0) hblk
        have c1 := cell_of_row w2 w.heap.size 1 _ _ (0, 0) hblk
        have c2 := cell_of_row w2 w.heap.size 2 _ _ (0, 0) hblk
        have c3 := cell_of_row w2 w.heap.size 3 _ _ (0, 0) hblk
        have HB := Lib.hid hb3
        clear hb2 hb3 hblk
        go_wp2_with fail
      · go_ret
        exact ⟨ret_int (by rw [HE.out]; rfl), HB.out⟩
      · refine (checkRange_any i 0 1 _).mono ?_
        rintro e3 w3 ⟨rfl, hw⟩
        rw [hw]
        clear hw
        go_wp2_with fail
        go_ret
        exact ⟨ret_int (by rw [HE.out]; rfl), HB.out⟩
      · refine (checkRange_any i (-1000000000) 1000000000 _).mono ?_
        rintro e3 w3 ⟨rfl, hw⟩
        rw [hw]
        clear hw
        go_wp2_with fail
        go_ret
        exact ⟨ret_int (by rw [HE.out]; rfl), HB.out⟩
      · refine (check_any s _ (by omega)).mono ?_
        rintro e3 w3 ⟨rfl, hw⟩
        rw [hw]
        clear hw
        go_wp2_with fail
        go_ret
        exact ⟨ret_int (by rw [HE.out]; rfl), HB.out⟩
      · refine (checkRange_any i 0 100000 _).mono ?_
        rintro e3 w3 ⟨rfl, hw⟩
        rw [hw]
        clear hw
        go_wp2_with fail
        go_ret
        exact ⟨ret_int (by rw [HE.out]; rfl), HB.out⟩
      · refine (days_any i t _).mono ?_
        rintro e3 w3 ⟨⟨x, y, rfl⟩, hw⟩
        rw [hw]
        clear hw
        go_wp2_with fail
        go_ret
        exact ⟨ret_int (by rw [HE.out]; rfl), HB.out⟩
      · refine (checkTitle_any s _ hz).mono ?_
        rintro e3 w3 ⟨rfl, hb4⟩
        have HB4 := Lib.hid (HB.out.trans (hb4.mono HB.out.size))
        clear hb4
        go_wp2_with fail
        go_ret
        exact ⟨ret_int (by rw [HE.out]; rfl), HB4.out⟩
      · go_ret
        exact ⟨ret_int (by rw [HE.out]; rfl), HB.out⟩
  · rw [show inR k 0 7 = false from decide_eq_false hk] at HK
    have HE := Lib.hid (fields_kind (i := i) (t := t) (s := s) (n := n) hk)
    clear hk
    go_enter Tryz.func40, Tryz.ntmps40
    go_wp2_with fail
    refine (HK.out _).mono ?_
    rintro e1 w1 ⟨rfl, hw⟩
    rw [hw]
    clear hw
    go_wp2_with fail
    go_ret
    exact ⟨ret_int HE.out.symm, (Below.refl _ _).alloc (Nat.le_refl _) _⟩
end Go.Proofs.YtggnocajpnmemaaGreatDoor
