/- Properties: the reference's ValueFault, of strings and links. -/
import Derived.Test.YtggnocajpnmemaaGreatDoorPtJ
import Derived.WalkKit
import Derived.Lib.Hide
import Derived.Outline
import Derived.Below
import Derived.Deep.DeepCutAuto
import Derived.Deep.CutBlock
import Derived.Deep.LoopGhost
import Derived.Deep.QuietTactic
import Derived.BigQuiet
import Derived.Deep.RegionHeld3
namespace Go.Proofs.YtggnocajpnmemaaGreatDoor
open Go.RowKit Go.Shelf

set_option maxRecDepth 100000 in
set_option maxHeartbeats 8000000 in
theorem vf_text (s : ByteArray) (A : Option Addr) (c : Nat) (w : World) :
    Calls Tryz.prog 8 #[.agg #[.int .i64 3, .int .i64 0, .int .i64 0, .string s, .slice A 0 c]] w (Quiet w (.int .i64 (textE s))) := by
  have HL := Lib.hid (fun W => lowByte_any s W)
  by_cases h0 : s.size = 0
  · have z1 := str_empty h0
    have z2 := str_isEmpty h0
    have hs0 : ((s.size : Nat) : Int) = 0 := by omega
    rw [ctl_empty h0] at HL
    have HE : Hid (textE s = 0) := Lib.hid (by unfold textE; rw [if_neg (by omega), ctl_empty h0]; rfl)
    clear h0
    go_enter Tryz.func8, Tryz.ntmps8
    go_wp2_with fail
    refine (HL.out _).mono ?_
    rintro e2 w2 ⟨rfl, hb2⟩
    obtain ⟨hb3, hblk⟩ := keep_box hb2
    have c0 := cell_of_row w2 w.heap.size 0 _ _ (0, 0) hblk
    have c1 := cell_of_row w2 w.heap.size 1 _ _ (0, 0) hblk
    have c2 := cell_of_row w2 w.heap.size 2 _ _ (0, 0) hblk
    have c3 := cell_of_row w2 w.heap.size 3 _ _ (0, 0) hblk
    have c4 := cell_of_row w2 w.heap.size 4 _ _ (0, 0) hblk
    have HB := Lib.hid hb3
    clear hb2 hb3 hblk
    go_wp2_with fail
    go_quiet (fail)
    go_wp2_with fail
    go_loopw [179] (fun iv wx => iv = .int .i64 0 ∧ Hid (Below w.heap.size w wx)) (fun _ _ => 0)
    case atStart => exact ⟨rfl, Lib.hid ⟨HB.out.os, HB.out.tape, HB.out.output, HB.out.size, HB.out.block⟩⟩
    case round =>
      obtain ⟨rfl, HB4⟩ := hrel
      go_wp2_with fail
      go_ret
      exact ⟨ret_int HE.out.symm, HB4.out⟩
  · have z1 := str_full (by omega : 0 < s.size)
    have z2 := str_nonEmpty (by omega : 0 < s.size)
    by_cases h2 : 2000 < s.size
    · have HE : Hid (textE s = 4) := Lib.hid (by unfold textE; rw [if_pos h2])
      have p2 : (2000 : Int) < s.size := by omega
      clear h0 h2
      go_enter Tryz.func8, Tryz.ntmps8
      go_wp2_with fail
      go_ret
      exact ⟨ret_int HE.out.symm, (Below.refl _ _).alloc (Nat.le_refl _) _⟩
    · have p2 : ¬ (2000 : Int) < s.size := by omega
      rcases hc : ctlB s with _ | _
      · have HE : Hid (textE s = 0) := Lib.hid (by unfold textE; rw [if_neg h2, hc]; rfl)
        rw [hc] at HL
        clear h0 h2 hc
        go_enter Tryz.func8, Tryz.ntmps8
        go_wp2_with fail
        refine (HL.out _).mono ?_
        rintro e2 w2 ⟨rfl, hb2⟩
        obtain ⟨hb3, hblk⟩ := keep_box hb2
        have c0 := cell_of_row w2 w.heap.size 0 _ _ (0, 0) hblk
        have c1 := cell_of_row w2 w.heap.size 1 _ _ (0, 0) hblk
        have c2 := cell_of_row w2 w.heap.size 2 _ _ (0, 0) hblk
        have c3 := cell_of_row w2 w.heap.size 3 _ _ (0, 0) hblk
        have c4 := cell_of_row w2 w.heap.size 4 _ _ (0, 0) hblk
        have HB := Lib.hid hb3
        clear hb2 hb3 hblk
        go_wp2_with fail
        go_quiet (fail)
        go_wp2_with fail
        go_loopw [179] (fun iv wx => iv = .int .i64 0 ∧ Hid (Below w.heap.size w wx)) (fun _ _ => 0)
        case atStart => exact ⟨rfl, Lib.hid ⟨HB.out.os, HB.out.tape, HB.out.output, HB.out.size, HB.out.block⟩⟩
        case round =>
          obtain ⟨rfl, HB4⟩ := hrel
          go_wp2_with fail
          go_ret
          exact ⟨ret_int HE.out.symm, HB4.out⟩
      · have HE : Hid (textE s = 9) := Lib.hid (by unfold textE; rw [if_neg h2, hc]; rfl)
        rw [hc] at HL
        clear h0 h2 hc
        go_enter Tryz.func8, Tryz.ntmps8
        go_wp2_with fail
        refine (HL.out _).mono ?_
        rintro e2 w2 ⟨rfl, hb2⟩
        obtain ⟨hb3, hblk⟩ := keep_box hb2
        have c0 := cell_of_row w2 w.heap.size 0 _ _ (0, 0) hblk
        have c1 := cell_of_row w2 w.heap.size 1 _ _ (0, 0) hblk
        have c2 := cell_of_row w2 w.heap.size 2 _ _ (0, 0) hblk
        have c3 := cell_of_row w2 w.heap.size 3 _ _ (0, 0) hblk
        have c4 := cell_of_row w2 w.heap.size 4 _ _ (0, 0) hblk
        have HB := Lib.hid hb3
        clear hb2 hb3 hblk
        go_wp2_with fail
        go_ret
        exact ⟨ret_int HE.out.symm, HB.out⟩

theorem lt_of_blk' {w : World} {B : Nat} {o : Obj} (h : w.heap[B]? = some o) : B < w.heap.size := by
  by_cases hlt : B < w.heap.size
  · exact hlt
  · rw [Array.getElem?_eq_none (by omega)] at h; cases h
/-- A box that is kept. -/
structure BoxIn (w : World) (o : Obj) (W : World) : Prop where
  below : Below w.heap.size w W
  blk : W.heap[w.heap.size]? = some o
theorem BoxIn.next {w W W' : World} {o : Obj} (h : BoxIn w o W) (hb : Below W.heap.size W W') : BoxIn w o W' :=
  ⟨h.below.trans (hb.mono h.below.size), (hb.block _ (lt_of_blk' h.blk)).trans h.blk⟩
theorem BoxIn.drewN {w W : World} {o : Obj} (h : BoxIn w o W) (n : Nat) : BoxIn w o (W.drewN n) := ⟨⟨h.below.os, h.below.tape, h.below.output, h.below.size, h.below.block⟩, h.blk⟩
theorem BoxIn.drew {w W : World} {o : Obj} (h : BoxIn w o W) : BoxIn w o W.drew := ⟨⟨h.below.os, h.below.tape, h.below.output, h.below.size, h.below.block⟩, h.blk⟩
theorem keepC {w W W' : World} {k0 : Value} {s0 : Value} (h : W.cell? ⟨w.heap.size, 0, none⟩ = some k0 ∧ W.cell? ⟨w.heap.size, 3, none⟩ = some s0) (hb : w.heap.size < W.heap.size ∧ Below W.heap.size W W') :
    W'.cell? ⟨w.heap.size, 0, none⟩ = some k0 ∧ W'.cell? ⟨w.heap.size, 3, none⟩ = some s0 :=
  ⟨(hb.2.cell (p := ⟨w.heap.size, 0, none⟩) hb.1).trans h.1, (hb.2.cell (p := ⟨w.heap.size, 3, none⟩) hb.1).trans h.2⟩
theorem call_in {w W : World} {o : Obj} {f : Nat} {args : Array Value} {v : Value} (h : BoxIn w o W) (hc : Calls Tryz.prog f args W (Quiet W v)) :
    Calls Tryz.prog f args W fun e w' => e = .returned v ∧ (w.heap.size < W.heap.size ∧ Below W.heap.size W w') ∧ Hid (BoxIn w o w') := by
  refine hc.mono ?_
  rintro e w' ⟨rfl, hb⟩
  exact ⟨rfl, ⟨lt_of_blk' h.blk, hb⟩, Lib.hid (h.next hb)⟩

set_option maxRecDepth 100000 in
set_option maxHeartbeats 8000000 in
theorem vf_link (s : ByteArray) (A : Option Addr) (c : Nat) (w : World) (hs : s.size ≤ 1048576) :
    Calls Tryz.prog 8 #[.agg #[.int .i64 6, .int .i64 0, .int .i64 0, .string s, .slice A 0 c]] w (Quiet w (.int .i64 (titleE s))) := by
  have HL := Lib.hid (fun W => lowByte_any s W)
  by_cases h0 : s.size = 0
  · have z1 := str_empty h0
    have z2 := str_isEmpty h0
    have hs0 : ((s.size : Nat) : Int) = 0 := by omega
    rw [ctl_empty h0] at HL
    have HE : Hid (titleE s = 1) := Lib.hid (by unfold titleE; rw [if_neg (by omega), ctl_empty h0, if_neg (by simp), if_pos (.inl h0)])
    clear h0
    go_enter Tryz.func8, Tryz.ntmps8
    go_wp2_with fail
    refine (HL.out _).mono ?_
    rintro e2 w2 ⟨rfl, hb2⟩
    obtain ⟨hb3, hblk⟩ := keep_box hb2
    have c0 := cell_of_row w2 w.heap.size 0 _ _ (0, 0) hblk
    have c1 := cell_of_row w2 w.heap.size 1 _ _ (0, 0) hblk
    have c2 := cell_of_row w2 w.heap.size 2 _ _ (0, 0) hblk
    have c3 := cell_of_row w2 w.heap.size 3 _ _ (0, 0) hblk
    have c4 := cell_of_row w2 w.heap.size 4 _ _ (0, 0) hblk
    have HB := Lib.hid hb3
    clear hb2 hb3 hblk
    go_wp2_with fail
    go_quiet (fail)
    go_wp2_with fail
    go_ret
    exact ⟨ret_int HE.out.symm, ⟨HB.out.os, HB.out.tape, HB.out.output, HB.out.size, HB.out.block⟩⟩
  · have z1 := str_full (by omega : 0 < s.size)
    have z2 := str_nonEmpty (by omega : 0 < s.size)
    by_cases h2 : 100 < s.size
    · have HE : Hid (titleE s = 4) := Lib.hid (by unfold titleE; rw [if_pos h2])
      have p2 : (100 : Int) < s.size := by omega
      clear h0 h2
      go_enter Tryz.func8, Tryz.ntmps8
      go_wp2_with fail
      go_ret
      exact ⟨ret_int HE.out.symm, (Below.refl _ _).alloc (Nat.le_refl _) _⟩
    · have p2 : ¬ (100 : Int) < s.size := by omega
      rcases hc : ctlB s with _ | _
      · rw [hc] at HL
        obtain ⟨T, hT1, hT2, hT3⟩ := trimSp_any s w (by omega)
        have HT := Lib.hid hT3
        rcases he : edgeB s.data.toList with _ | _
        · obtain rfl := hT1 he
          have HA := Lib.hid (fun W => containsBr_any T W (by omega))
          rcases hbr : T.data.toList.any brB with _ | _
          · have HE : Hid (titleE T = 0) := Lib.hid (by unfold titleE; rw [if_neg h2, hc, if_neg (by simp), if_neg (by rintro (h | h | h); exact h0 h; rw [he] at h; cases h; rw [hbr] at h; cases h)])
            rw [hbr] at HA
            clear h0 h2 hc he hbr hT1 hT2 hT3
            go_enter Tryz.func8, Tryz.ntmps8
            go_wp2_with fail
            refine (HL.out _).mono ?_
            rintro e2 w2 ⟨rfl, hb2⟩
            obtain ⟨hb3, hblk⟩ := keep_box hb2
            have c0 := cell_of_row w2 w.heap.size 0 _ _ (0, 0) hblk
            have c1 := cell_of_row w2 w.heap.size 1 _ _ (0, 0) hblk
            have c2 := cell_of_row w2 w.heap.size 2 _ _ (0, 0) hblk
            have c3 := cell_of_row w2 w.heap.size 3 _ _ (0, 0) hblk
            have c4 := cell_of_row w2 w.heap.size 4 _ _ (0, 0) hblk
            have HB := Lib.hid hb3
            have HBLK := Lib.hid hblk
            clear hb2 hb3 hblk
            go_wp2_with fail
            have FB := Lib.hid (show BoxIn w _ w2 from ⟨HB.out, HBLK.out⟩)
            clear HBLK
            go_region_held3 (fun W => W.cell? ⟨w.heap.size, 0, none⟩ = some (.int .i64 6) ∧ W.cell? ⟨w.heap.size, 3, none⟩ = some (.string T))
              (first
                | exact keepC (by assumption) hb
                | exact ⟨c0, c3⟩)
              (first
                | (go_at_call 32; with_reducible refine (call_in (FB.out.drew) (HT.out _)).mono ?_; rintro e w3 ⟨rfl, hb, FB⟩)
                | (go_at_call 32; with_reducible refine (call_in FB.out (HT.out _)).mono ?_; rintro e w3 ⟨rfl, hb, FB⟩)
                | (go_at_call 33; with_reducible refine (call_in FB.out (HA.out _)).mono ?_; rintro e w4 ⟨rfl, hb, FB⟩))
            have c4b := cell_of_row w4 w.heap.size 4 _ _ (0, 0) FB.out.blk
            go_wp2_with fail
            go_loopw [179] (fun iv wx => iv = .int .i64 0 ∧ Hid (Below w.heap.size w wx)) (fun _ _ => 0)
            case atStart => exact ⟨rfl, Lib.hid FB.out.below⟩
            case round =>
              obtain ⟨rfl, HB4⟩ := hrel
              go_wp2_with fail
              go_ret
              exact ⟨ret_int HE.out.symm, HB4.out⟩
          · have HE : Hid (titleE T = 1) := Lib.hid (by unfold titleE; rw [if_neg h2, hc, if_neg (by simp), if_pos (.inr (.inr hbr))])
            rw [hbr] at HA
            clear h0 h2 hc he hbr hT1 hT2 hT3
            go_enter Tryz.func8, Tryz.ntmps8
            go_wp2_with fail
            refine (HL.out _).mono ?_
            rintro e2 w2 ⟨rfl, hb2⟩
            obtain ⟨hb3, hblk⟩ := keep_box hb2
            have c0 := cell_of_row w2 w.heap.size 0 _ _ (0, 0) hblk
            have c1 := cell_of_row w2 w.heap.size 1 _ _ (0, 0) hblk
            have c2 := cell_of_row w2 w.heap.size 2 _ _ (0, 0) hblk
            have c3 := cell_of_row w2 w.heap.size 3 _ _ (0, 0) hblk
            have c4 := cell_of_row w2 w.heap.size 4 _ _ (0, 0) hblk
            have HB := Lib.hid hb3
            have HBLK := Lib.hid hblk
            clear hb2 hb3 hblk
            go_wp2_with fail
            have FB := Lib.hid (show BoxIn w _ w2 from ⟨HB.out, HBLK.out⟩)
            clear HBLK
            go_region_held3 (fun W => W.cell? ⟨w.heap.size, 0, none⟩ = some (.int .i64 6) ∧ W.cell? ⟨w.heap.size, 3, none⟩ = some (.string T))
              (first
                | exact keepC (by assumption) hb
                | exact ⟨c0, c3⟩)
              (first
                | (go_at_call 32; with_reducible refine (call_in (FB.out.drew) (HT.out _)).mono ?_; rintro e w3 ⟨rfl, hb, FB⟩)
                | (go_at_call 32; with_reducible refine (call_in FB.out (HT.out _)).mono ?_; rintro e w3 ⟨rfl, hb, FB⟩)
                | (go_at_call 33; with_reducible refine (call_in FB.out (HA.out _)).mono ?_; rintro e w4 ⟨rfl, hb, FB⟩))
            go_wp2_with fail
            go_ret
            exact ⟨ret_int HE.out.symm, FB.out.below⟩
        · obtain ⟨d1, d2⟩ := hT2 he
          have d3 : (T.toList == s.toList) = false := by simpa using d2
          have d4 : (T.toList != s.toList) = true := by simpa using d2
          have HE : Hid (titleE s = 1) := Lib.hid (by unfold titleE; rw [if_neg h2, hc, if_neg (by simp), if_pos (.inr (.inl he))])
          clear h0 h2 hc he hT1 hT2 hT3
          go_enter Tryz.func8, Tryz.ntmps8
          go_wp2_with fail
          refine (HL.out _).mono ?_
          rintro e2 w2 ⟨rfl, hb2⟩
          obtain ⟨hb3, hblk⟩ := keep_box hb2
          have c0 := cell_of_row w2 w.heap.size 0 _ _ (0, 0) hblk
          have c1 := cell_of_row w2 w.heap.size 1 _ _ (0, 0) hblk
          have c2 := cell_of_row w2 w.heap.size 2 _ _ (0, 0) hblk
          have c3 := cell_of_row w2 w.heap.size 3 _ _ (0, 0) hblk
          have c4 := cell_of_row w2 w.heap.size 4 _ _ (0, 0) hblk
          have HB := Lib.hid hb3
          have HBLK := Lib.hid hblk
          clear hb2 hb3 hblk
          go_wp2_with fail
          have FB := Lib.hid (show BoxIn w _ w2 from ⟨HB.out, HBLK.out⟩)
          clear HBLK
          first
            | (go_region_with (first
              | (go_at_call 32; with_reducible refine (call_in (FB.out.drew) (HT.out _)).mono ?_; rintro e w3 ⟨rfl, hb, FB⟩; obtain ⟨c0b, c3b⟩ := keepC (w := w) ⟨c0, c3⟩ hb)
              | (go_at_call 32; with_reducible refine (call_in FB.out (HT.out _)).mono ?_; rintro e w3 ⟨rfl, hb, FB⟩; obtain ⟨c0b, c3b⟩ := keepC (w := w) ⟨c0, c3⟩ hb)))
            | fail "REGION"
          all_goals (go_wp2_with fail)
          all_goals go_ret
          all_goals exact ⟨ret_int HE.out.symm, FB.out.below⟩
      · have HE : Hid (titleE s = 9) := Lib.hid (by unfold titleE; rw [if_neg h2, hc]; rfl)
        rw [hc] at HL
        clear h0 h2 hc
        go_enter Tryz.func8, Tryz.ntmps8
        go_wp2_with fail
        refine (HL.out _).mono ?_
        rintro e2 w2 ⟨rfl, hb2⟩
        obtain ⟨hb3, hblk⟩ := keep_box hb2
        have c0 := cell_of_row w2 w.heap.size 0 _ _ (0, 0) hblk
        have c1 := cell_of_row w2 w.heap.size 1 _ _ (0, 0) hblk
        have c2 := cell_of_row w2 w.heap.size 2 _ _ (0, 0) hblk
        have c3 := cell_of_row w2 w.heap.size 3 _ _ (0, 0) hblk
        have c4 := cell_of_row w2 w.heap.size 4 _ _ (0, 0) hblk
        have HB := Lib.hid hb3
        clear hb2 hb3 hblk
        go_wp2_with fail
        go_ret
        exact ⟨ret_int HE.out.symm, HB.out⟩
end Go.Proofs.YtggnocajpnmemaaGreatDoor
