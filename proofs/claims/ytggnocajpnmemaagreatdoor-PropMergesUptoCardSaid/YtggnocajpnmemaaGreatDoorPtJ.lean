/- Properties: the reference's ValueFault, of values that are no lists: what is unused; numbers and days. -/
import Derived.Test.YtggnocajpnmemaaGreatDoorPuX
import Derived.WalkKit
import Derived.Lib.Hide
import Derived.Outline
import Derived.Below
import Derived.Deep.DeepCutAuto
import Derived.Deep.CutBlock
import Derived.Deep.LoopGhost
import Derived.Deep.QuietTactic
import Derived.BigQuiet
namespace Go.Proofs.YtggnocajpnmemaaGreatDoor
open Go.RowKit Go.Shelf

set_option maxRecDepth 100000 in
set_option maxHeartbeats 8000000 in
theorem vf_kind (k i t : Int) (s : ByteArray) (A : Option Addr) (n c : Nat) (w : World) (hk : ¬ (0 ≤ k ∧ k ≤ 7)) :
    Calls Tryz.prog 8 #[.agg #[.int .i64 k, .int .i64 i, .int .i64 t, .string s, .slice A n c]] w (Quiet w (.int .i64 10)) := by
  by_cases h : k < 0
  · clear hk
    go_enter Tryz.func8, Tryz.ntmps8
    go_wp2
    go_ret
    exact ⟨rfl, (Below.refl _ _).alloc (Nat.le_refl _) _⟩
  · have h2 : 7 < k := by omega
    clear hk
    go_enter Tryz.func8, Tryz.ntmps8
    go_wp2
    go_ret
    exact ⟨rfl, (Below.refl _ _).alloc (Nat.le_refl _) _⟩

theorem ctl_empty {s : ByteArray} (h : s.size = 0) : ctlB s = false := by
  have e : s.data.toList = [] := List.eq_nil_of_length_eq_zero (by rw [← sizeL]; exact h)
  unfold ctlB; rw [e]; rfl
/-- Behind the texts' test, of a value without text and items. -/
theorem keep_box {w w2 : World} {o : Obj} (hb : Below (w.alloc o).heap.size (w.alloc o) w2) : Below w.heap.size w w2 ∧ w2.heap[w.heap.size]? = some o :=
  ⟨((Below.refl _ w).alloc (Nat.le_refl _) o).trans (hb.mono (by simp)), (hb.block _ (by simp)).trans (heap_alloc_new w o)⟩

set_option maxRecDepth 100000 in
set_option maxHeartbeats 8000000 in
theorem vf_none  (s : ByteArray) (A : Option Addr) (c : Nat) (w : World) (h0 : s.size = 0) :
    Calls Tryz.prog 8 #[.agg #[.int .i64 0, .int .i64 0, .int .i64 0, .string s, .slice A 0 c]] w (Quiet w (.int .i64 (0))) := by
  have z1 := str_empty h0
  have z2 := str_isEmpty h0
  have hs0 : ((s.size : Nat) : Int) = 0 := by omega
  have HL := Lib.hid (fun W => by have h := lowByte_any s W; rw [ctl_empty h0] at h; exact h)
  clear h0
  go_enter Tryz.func8, Tryz.ntmps8
  go_wp2_with fail
  refine (HL.out _).mono ?_
  rintro e2 w2 ⟨rfl, hb2⟩
  obtain ⟨hb3, hblk⟩ := keep_box hb2
  have c0 := cell_of_row w2 w.heap.size 0 _ _ (0, 0) hblk
  have c1 := cell_of_row w2 w.heap.size 1 _ _ (0, 0) hblk
  have c2 := cell_of_row w2 w.heap.size 2 _ _ (0, 0) hblk
  have c3 := cell_of_row w2 w.heap.size 3 _ _ (0, 0) hblk
  have c4 := cell_of_row w2 w.heap.size 4 _ _ (0, 0) hblk
  have HB := Lib.hid hb3
  clear hb2 hb3 hblk
  go_wp2_with fail
  go_quiet (fail)
  go_wp2_with fail
  go_loopw [179] (fun iv wx => iv = .int .i64 0 ∧ Hid (Below w.heap.size w wx)) (fun _ _ => 0)
  case atStart => exact ⟨rfl, Lib.hid ⟨HB.out.os, HB.out.tape, HB.out.output, HB.out.size, HB.out.block⟩⟩
  case round =>
    obtain ⟨rfl, HB4⟩ := hrel
    go_wp2_with fail
    go_ret
    exact ⟨rfl, HB4.out⟩

set_option maxRecDepth 100000 in
set_option maxHeartbeats 8000000 in
theorem vf_flag (i : Int) (s : ByteArray) (A : Option Addr) (c : Nat) (w : World) (h0 : s.size = 0) :
    Calls Tryz.prog 8 #[.agg #[.int .i64 1, .int .i64 i, .int .i64 0, .string s, .slice A 0 c]] w (Quiet w (.int .i64 (rangeE i 0 1))) := by
  have z1 := str_empty h0
  have z2 := str_isEmpty h0
  have hs0 : ((s.size : Nat) : Int) = 0 := by omega
  have HL := Lib.hid (fun W => by have h := lowByte_any s W; rw [ctl_empty h0] at h; exact h)
  clear h0
  by_cases h1 : i = 0
  · subst h1
    have HE : Hid (rangeE 0 0 1 = 0) := Lib.hid rfl
    go_enter Tryz.func8, Tryz.ntmps8
    go_wp2_with fail
    refine (HL.out _).mono ?_
    rintro e2 w2 ⟨rfl, hb2⟩
    obtain ⟨hb3, hblk⟩ := keep_box hb2
    have c0 := cell_of_row w2 w.heap.size 0 _ _ (0, 0) hblk
    have c1 := cell_of_row w2 w.heap.size 1 _ _ (0, 0) hblk
    have c2 := cell_of_row w2 w.heap.size 2 _ _ (0, 0) hblk
    have c3 := cell_of_row w2 w.heap.size 3 _ _ (0, 0) hblk
    have c4 := cell_of_row w2 w.heap.size 4 _ _ (0, 0) hblk
    have HB := Lib.hid hb3
    clear hb2 hb3 hblk
    go_wp2_with fail
    go_quiet (fail)
    go_wp2_with fail
    go_loopw [179] (fun iv wx => iv = .int .i64 0 ∧ Hid (Below w.heap.size w wx)) (fun _ _ => 0)
    case atStart => exact ⟨rfl, Lib.hid ⟨HB.out.os, HB.out.tape, HB.out.output, HB.out.size, HB.out.block⟩⟩
    case round =>
      obtain ⟨rfl, HB4⟩ := hrel
      go_wp2_with fail
      go_ret
      exact ⟨ret_int HE.out.symm, HB4.out⟩
  · by_cases h2 : i = 1
    · subst h2
      have HE : Hid (rangeE 1 0 1 = 0) := Lib.hid rfl
      go_enter Tryz.func8, Tryz.ntmps8
      go_wp2_with fail
      refine (HL.out _).mono ?_
      rintro e2 w2 ⟨rfl, hb2⟩
      obtain ⟨hb3, hblk⟩ := keep_box hb2
      have c0 := cell_of_row w2 w.heap.size 0 _ _ (0, 0) hblk
      have c1 := cell_of_row w2 w.heap.size 1 _ _ (0, 0) hblk
      have c2 := cell_of_row w2 w.heap.size 2 _ _ (0, 0) hblk
      have c3 := cell_of_row w2 w.heap.size 3 _ _ (0, 0) hblk
      have c4 := cell_of_row w2 w.heap.size 4 _ _ (0, 0) hblk
      have HB := Lib.hid hb3
      clear hb2 hb3 hblk
      go_wp2_with fail
      go_quiet (fail)
      go_wp2_with fail
      go_loopw [179] (fun iv wx => iv = .int .i64 0 ∧ Hid (Below w.heap.size w wx)) (fun _ _ => 0)
      case atStart => exact ⟨rfl, Lib.hid ⟨HB.out.os, HB.out.tape, HB.out.output, HB.out.size, HB.out.block⟩⟩
      case round =>
        obtain ⟨rfl, HB4⟩ := hrel
        go_wp2_with fail
        go_ret
        exact ⟨ret_int HE.out.symm, HB4.out⟩
    · have HE : Hid (rangeE i 0 1 = 2) := Lib.hid (rangeE_out (by omega))
      have q1 : (i != 0) = true := by simpa using h1
      have q2 : (i != 1) = true := by simpa using h2
      have q3 : (i == 0) = false := by simpa using h1
      have q4 : (i == 1) = false := by simpa using h2
      clear h1 h2
      go_enter Tryz.func8, Tryz.ntmps8
      go_wp2_with fail
      go_ret
      exact ⟨ret_int HE.out.symm, (Below.refl _ _).alloc (Nat.le_refl _) _⟩

set_option maxRecDepth 100000 in
set_option maxHeartbeats 8000000 in
theorem vf_number (i : Int) (s : ByteArray) (A : Option Addr) (c : Nat) (w : World) (h0 : s.size = 0) :
    Calls Tryz.prog 8 #[.agg #[.int .i64 2, .int .i64 i, .int .i64 0, .string s, .slice A 0 c]] w (Quiet w (.int .i64 (rangeE i (-1000000000) 1000000000))) := by
  have z1 := str_empty h0
  have z2 := str_isEmpty h0
  have hs0 : ((s.size : Nat) : Int) = 0 := by omega
  have HL := Lib.hid (fun W => by have h := lowByte_any s W; rw [ctl_empty h0] at h; exact h)
  clear h0
  have q := neq_dec i
  obtain ⟨bi, hbi⟩ : ∃ b, b = decide (i ≠ 0) := ⟨_, rfl⟩
  rw [← hbi] at q
  clear hbi
  by_cases h1 : i < -1000000000
  · have HE : Hid (rangeE i (-1000000000) 1000000000 = 2) := Lib.hid (rangeE_out (by omega))
    cases bi
    all_goals
      go_enter Tryz.func8, Tryz.ntmps8
      go_wp2_with fail
      go_ret
      exact ⟨ret_int HE.out.symm, (Below.refl _ _).alloc (Nat.le_refl _) _⟩
  · by_cases h2 : 1000000000 < i
    · have HE : Hid (rangeE i (-1000000000) 1000000000 = 2) := Lib.hid (rangeE_out (by omega))
      cases bi
      all_goals
        go_enter Tryz.func8, Tryz.ntmps8
        go_wp2_with fail
        go_ret
        exact ⟨ret_int HE.out.symm, (Below.refl _ _).alloc (Nat.le_refl _) _⟩
    · have HE : Hid (rangeE i (-1000000000) 1000000000 = 0) := Lib.hid (rangeE_in (by omega))
      cases bi
      all_goals
        go_enter Tryz.func8, Tryz.ntmps8
        go_wp2_with fail
        refine (HL.out _).mono ?_
        rintro e2 w2 ⟨rfl, hb2⟩
        obtain ⟨hb3, hblk⟩ := keep_box hb2
        have c0 := cell_of_row w2 w.heap.size 0 _ _ (0, 0) hblk
        have c1 := cell_of_row w2 w.heap.size 1 _ _ (0, 0) hblk
        have c2 := cell_of_row w2 w.heap.size 2 _ _ (0, 0) hblk
        have c3 := cell_of_row w2 w.heap.size 3 _ _ (0, 0) hblk
        have c4 := cell_of_row w2 w.heap.size 4 _ _ (0, 0) hblk
        have HB := Lib.hid hb3
        clear hb2 hb3 hblk
        go_wp2_with fail
        go_quiet (fail)
        go_wp2_with fail
        go_loopw [179] (fun iv wx => iv = .int .i64 0 ∧ Hid (Below w.heap.size w wx)) (fun _ _ => 0)
        case atStart => exact ⟨rfl, Lib.hid ⟨HB.out.os, HB.out.tape, HB.out.output, HB.out.size, HB.out.block⟩⟩
        case round =>
          obtain ⟨rfl, HB4⟩ := hrel
          go_wp2_with fail
          go_ret
          exact ⟨ret_int HE.out.symm, HB4.out⟩

set_option maxRecDepth 100000 in
set_option maxHeartbeats 8000000 in
theorem vf_date (i : Int) (s : ByteArray) (A : Option Addr) (c : Nat) (w : World) (h0 : s.size = 0) :
    Calls Tryz.prog 8 #[.agg #[.int .i64 4, .int .i64 i, .int .i64 0, .string s, .slice A 0 c]] w (Quiet w (.int .i64 (rangeE i 0 100000))) := by
  have z1 := str_empty h0
  have z2 := str_isEmpty h0
  have hs0 : ((s.size : Nat) : Int) = 0 := by omega
  have HL := Lib.hid (fun W => by have h := lowByte_any s W; rw [ctl_empty h0] at h; exact h)
  clear h0
  have q := neq_dec i
  obtain ⟨bi, hbi⟩ : ∃ b, b = decide (i ≠ 0) := ⟨_, rfl⟩
  rw [← hbi] at q
  clear hbi
  have HD := Lib.hid (fun W => refIsDay_any i W)
  by_cases h1 : 0 ≤ i ∧ i ≤ 100000
  · have HE : Hid (rangeE i 0 100000 = 0) := Lib.hid (rangeE_in h1)
    rw [show inR i 0 100000 = true from decide_eq_true h1] at HD
    clear h1
    cases bi
    all_goals
      go_enter Tryz.func8, Tryz.ntmps8
      go_wp2_with fail
      refine (HD.out _).mono ?_
      rintro e7 w7 ⟨rfl, hw⟩
      rw [hw]
      clear hw
      go_wp2_with fail
      refine (HL.out _).mono ?_
      rintro e2 w2 ⟨rfl, hb2⟩
      obtain ⟨hb3, hblk⟩ := keep_box hb2
      have c0 := cell_of_row w2 w.heap.size 0 _ _ (0, 0) hblk
      have c1 := cell_of_row w2 w.heap.size 1 _ _ (0, 0) hblk
      have c2 := cell_of_row w2 w.heap.size 2 _ _ (0, 0) hblk
      have c3 := cell_of_row w2 w.heap.size 3 _ _ (0, 0) hblk
      have c4 := cell_of_row w2 w.heap.size 4 _ _ (0, 0) hblk
      have HB := Lib.hid hb3
      clear hb2 hb3 hblk
      go_wp2_with fail
      go_quiet (fail)
      go_wp2_with fail
      go_loopw [179] (fun iv wx => iv = .int .i64 0 ∧ Hid (Below w.heap.size w wx)) (fun _ _ => 0)
      case atStart => exact ⟨rfl, Lib.hid ⟨HB.out.os, HB.out.tape, HB.out.output, HB.out.size, HB.out.block⟩⟩
      case round =>
        obtain ⟨rfl, HB4⟩ := hrel
        go_wp2_with fail
        go_ret
        exact ⟨ret_int HE.out.symm, HB4.out⟩
  · have HE : Hid (rangeE i 0 100000 = 2) := Lib.hid (rangeE_out h1)
    rw [show inR i 0 100000 = false from decide_eq_false h1] at HD
    clear h1
    cases bi
    all_goals
      go_enter Tryz.func8, Tryz.ntmps8
      go_wp2_with fail
      refine (HD.out _).mono ?_
      rintro e7 w7 ⟨rfl, hw⟩
      rw [hw]
      clear hw
      go_wp2_with fail
      go_ret
      exact ⟨ret_int HE.out.symm, (Below.refl _ _).alloc (Nat.le_refl _) _⟩

set_option maxRecDepth 100000 in
set_option maxHeartbeats 8000000 in
theorem vf_span (i t : Int) (s : ByteArray) (A : Option Addr) (c : Nat) (w : World) (h0 : s.size = 0) :
    Calls Tryz.prog 8 #[.agg #[.int .i64 5, .int .i64 i, .int .i64 t, .string s, .slice A 0 c]] w (Quiet w (.int .i64 (daysE i t))) := by
  have z1 := str_empty h0
  have z2 := str_isEmpty h0
  have hs0 : ((s.size : Nat) : Int) = 0 := by omega
  have HL := Lib.hid (fun W => by have h := lowByte_any s W; rw [ctl_empty h0] at h; exact h)
  clear h0
  have q := neq_dec i
  have qt := neq_dec t
  obtain ⟨bi, hbi⟩ : ∃ b, b = decide (i ≠ 0) := ⟨_, rfl⟩
  obtain ⟨bt, hbt⟩ : ∃ b, b = decide (t ≠ 0) := ⟨_, rfl⟩
  rw [← hbi] at q
  rw [← hbt] at qt
  clear hbi hbt
  have HD := Lib.hid (fun W => refIsDay_any i W)
  have HD2 := Lib.hid (fun W => refIsDay_any t W)
  rcases h1 : inR i 0 100000 with _ | _
  · have HE : Hid (daysE i t = 2) := Lib.hid (by unfold daysE; rw [if_pos (.inl h1)])
    rw [h1] at HD
    clear h1
    cases bi <;> cases bt
    all_goals
      go_enter Tryz.func8, Tryz.ntmps8
      go_wp2_with fail
      refine (HD.out _).mono ?_
      rintro e7 w7 ⟨rfl, hw⟩
      rw [hw]
      clear hw
      go_wp2_with fail
      go_ret
      exact ⟨ret_int HE.out.symm, (Below.refl _ _).alloc (Nat.le_refl _) _⟩
  · rw [h1] at HD
    rcases h2 : inR t 0 100000 with _ | _
    · have HE : Hid (daysE i t = 2) := Lib.hid (by unfold daysE; rw [if_pos (.inr h2)])
      rw [h2] at HD2
      clear h1 h2
      cases bi <;> cases bt
      all_goals
        go_enter Tryz.func8, Tryz.ntmps8
        go_wp2_with fail
        refine (HD.out _).mono ?_
        rintro e7 w7 ⟨rfl, hw⟩
        rw [hw]
        clear hw
        go_wp2_with fail
        refine (HD2.out _).mono ?_
        rintro e8 w8 ⟨rfl, hw⟩
        rw [hw]
        clear hw
        go_wp2_with fail
        go_ret
        exact ⟨ret_int HE.out.symm, (Below.refl _ _).alloc (Nat.le_refl _) _⟩
    · rw [h2] at HD2
      by_cases h3 : t < i
      · have HE : Hid (daysE i t = 5) := Lib.hid (by unfold daysE; rw [if_neg (by rw [h1, h2]; simp), if_pos h3])
        clear h1 h2
        cases bi <;> cases bt
        all_goals
          go_enter Tryz.func8, Tryz.ntmps8
          go_wp2_with fail
          refine (HD.out _).mono ?_
          rintro e7 w7 ⟨rfl, hw⟩
          rw [hw]
          clear hw
          go_wp2_with fail
          refine (HD2.out _).mono ?_
          rintro e8 w8 ⟨rfl, hw⟩
          rw [hw]
          clear hw
          go_wp2_with fail
          go_ret
          exact ⟨ret_int HE.out.symm, (Below.refl _ _).alloc (Nat.le_refl _) _⟩
      · have HE : Hid (daysE i t = 0) := Lib.hid (by unfold daysE; rw [if_neg (by rw [h1, h2]; simp), if_neg h3])
        clear h1 h2
        cases bi <;> cases bt
        all_goals
          go_enter Tryz.func8, Tryz.ntmps8
          go_wp2_with fail
          refine (HD.out _).mono ?_
          rintro e7 w7 ⟨rfl, hw⟩
          rw [hw]
          clear hw
          go_wp2_with fail
          refine (HD2.out _).mono ?_
          rintro e8 w8 ⟨rfl, hw⟩
          rw [hw]
          clear hw
          go_wp2_with fail
          refine (HL.out _).mono ?_
          rintro e2 w2 ⟨rfl, hb2⟩
          obtain ⟨hb3, hblk⟩ := keep_box hb2
          have c0 := cell_of_row w2 w.heap.size 0 _ _ (0, 0) hblk
          have c1 := cell_of_row w2 w.heap.size 1 _ _ (0, 0) hblk
          have c2 := cell_of_row w2 w.heap.size 2 _ _ (0, 0) hblk
          have c3 := cell_of_row w2 w.heap.size 3 _ _ (0, 0) hblk
          have c4 := cell_of_row w2 w.heap.size 4 _ _ (0, 0) hblk
          have HB := Lib.hid hb3
          clear hb2 hb3 hblk
          go_wp2_with fail
          go_quiet (fail)
          go_wp2_with fail
          go_loopw [179] (fun iv wx => iv = .int .i64 0 ∧ Hid (Below w.heap.size w wx)) (fun _ _ => 0)
          case atStart => exact ⟨rfl, Lib.hid ⟨HB.out.os, HB.out.tape, HB.out.output, HB.out.size, HB.out.block⟩⟩
          case round =>
            obtain ⟨rfl, HB4⟩ := hrel
            go_wp2_with fail
            go_ret
            exact ⟨ret_int HE.out.symm, HB4.out⟩
end Go.Proofs.YtggnocajpnmemaaGreatDoor
