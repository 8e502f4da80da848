/- The law TextTargets: the walk. -/
import Derived.Test.YticdapkljbillaaGreatDoorTgK
import Derived.WalkKit
import Derived.Lib.Hide
import Derived.Outline
import Derived.Below
import Derived.Deep.QuietTactic
import Derived.BigQuiet
namespace Go.Proofs.YticdapkljbillaaGreatDoor
open Go.RowKit Go.Maps

theorem IntsAt.to {w w' : World} {zs : List Int} {v : Value} (h : IntsAt w w.heap.size zs v) (hb : Below w.heap.size w w') : IntsAt w' w'.heap.size zs v := by
  have h2 := h.below hb
  obtain ⟨A, c, e, h1⟩ := h2.sl
  refine ⟨⟨A, c, e, ?_⟩, h2.len, h2.wf⟩
  rcases h1 with h1 | ⟨b, off, ea, hlt, hc⟩
  · exact .inl h1
  · exact .inr ⟨b, off, ea, Nat.lt_of_lt_of_le hlt hb.size, hc⟩
theorem lt_none {t s : ByteArray} (h : isTgt t = false) : ltOf t s = (⟨#[]⟩, 3) := by unfold ltOf; rw [if_pos h]
theorem lt_br {t s : ByteArray} (h : isTgt t = true) (h1 : hasBr s = true) : ltOf t s = (⟨#[]⟩, 1) := by unfold ltOf; rw [if_neg (by simp [h]), if_pos h1]
theorem lt_one {t s : ByteArray} (h : isTgt t = true) (h1 : hasBr s = false) (h2 : s.toList = []) : ltOf t s = (⟨#[91, 91]⟩ ++ t ++ ⟨#[93, 93]⟩, 0) := by unfold ltOf; rw [if_neg (by simp [h]), if_neg (by simp [h1]), if_pos h2]
theorem lt_two {t s : ByteArray} (h : isTgt t = true) (h1 : hasBr s = false) (h2 : ¬ s.toList = []) : ltOf t s = (⟨#[91, 91]⟩ ++ t ++ ⟨#[124]⟩ ++ s ++ ⟨#[93, 93]⟩, 0) := by unfold ltOf; rw [if_neg (by simp [h]), if_neg (by simp [h1]), if_neg h2]
theorem assoc_B (a b c d e : ByteArray) : a ++ b ++ c ++ d ++ e = a ++ b ++ (c ++ d) ++ e := by
  apply ByteArray.ext
  apply Array.ext'
  simp [ByteArray.data_append]

set_option maxRecDepth 100000 in
set_option maxHeartbeats 4000000 in
theorem textTargets_any (s : ByteArray) (lk : Int) (t h : ByteArray) (fs ts : List Int) (vf vt : Value) (w : World) (hs : s.size ≤ 1048576) (ht : t.size ≤ 1048576) (hh : h.size ≤ 1048576)
    (hf : IntsAt w w.heap.size fs vf) (hts : IntsAt w w.heap.size ts vt) (htab : Tab w) :
    Calls Tryz.prog 3 #[.string s, .int .i64 lk, .string t, .string h, vf, vt] w (Quiet w (.bool true)) := by
  obtain ⟨R1, hR1⟩ : ∃ R, R = rtRes s lk t := ⟨_, rfl⟩
  obtain ⟨R2, hR2⟩ : ∃ R, R = rnRes s fs ts := ⟨_, rfl⟩
  have HP1 : Hid (∀ W, Calls Tryz.prog 7 #[.string s, .int .i64 lk, .string t] W (Quiet W (.tuple #[.string R1.1, .int .i64 (R1.2 : Int)]))) := Lib.hid (fun W => by rw [hR1]; exact retarget_any s lk t W hs ht)
  have HP2 : Hid (∀ W, Calls Tryz.prog 8 #[.string s, .int .i64 lk, .string t] W (Quiet W (.tuple #[.string R1.1, .int .i64 (R1.2 : Int)]))) := Lib.hid (fun W => by rw [hR1]; exact retargetOf_any s lk t W hs ht)
  have HP3 : Hid (∀ W, Below w.heap.size w W → Calls Tryz.prog 9 #[.string s, vf, vt] W (Quiet W (.tuple #[.string R2.1, .int .i64 R2.2]))) := Lib.hid (fun W hb => by rw [hR2]; exact renumber_any s fs ts vf vt W hs (hf.to hb) (hts.to hb) (htab.kept (hb.block _ htab.lt)))
  have HP4 : Hid (∀ W, Below w.heap.size w W → Calls Tryz.prog 10 #[.string s, vf, vt] W (Quiet W (.tuple #[.string R2.1, .int .i64 R2.2]))) := Lib.hid (fun W hb => by rw [hR2]; exact renumbered_any s fs ts vf vt W hs (hf.to hb) (hts.to hb))
  have HT := Lib.hid (fun W => refIsTarget_any t W (by omega))
  have HB := Lib.hid (fun W => hasBracket_any h W (by omega))
  have HL := Lib.hid (fun W => linkText_any t h W (by omega) (by omega))
  obtain ⟨x1, y1⟩ := R1
  obtain ⟨x2, y2⟩ := R2
  simp only at HP1 HP2 HP3 HP4
  have q1 : (x1.toList == x1.toList) = true := by simp
  have q2 : (x2.toList == x2.toList) = true := by simp
  have q3 : ((y1 : Int) == (y1 : Int)) = true := by simp
  have q4 : (y2 == y2) = true := by simp
  clear hR1 hR2 hf hts htab
  cases h1 : isTgt t with
  | false =>
    have hv := lt_none (s := h) h1
    rw [hv] at HL
    rw [h1] at HT
    simp only at HL
    clear hv h1
    go_enter Tryz.func3, Tryz.ntmps3
    go_wp2_with fail
    refine (HL.out _).mono ?_
    rintro e1 w1 ⟨rfl, hw⟩
    rw [hw]
    clear hw w1
    go_wp2_with fail
    refine (HT.out _).mono ?_
    rintro e2 w2 ⟨rfl, hb2⟩
    have HB2 := Lib.hid hb2
    clear hb2
    go_wp2_with fail
    refine (HP1.out _).mono ?_
    rintro e3 w3 ⟨rfl, hb3⟩
    have HB3 := Lib.hid (HB2.out.trans (hb3.mono HB2.out.size))
    clear hb3
    go_wp2_with fail
    refine (HP2.out _).mono ?_
    rintro e4 w4 ⟨rfl, hb4⟩
    have HB4 := Lib.hid (HB3.out.trans (hb4.mono HB3.out.size))
    clear hb4
    go_wp2_with fail
    refine (HP3.out _ HB4.out).mono ?_
    rintro e5 w5 ⟨rfl, hb5⟩
    have HB5 := Lib.hid (HB4.out.trans (hb5.mono HB4.out.size))
    clear hb5
    go_wp2_with fail
    refine (HP4.out _ HB5.out).mono ?_
    rintro e6 w6 ⟨rfl, hb6⟩
    have HB6 := Lib.hid (HB5.out.trans (hb6.mono HB5.out.size))
    clear hb6
    go_wp2_with fail
    go_ret
    exact ⟨rfl, HB6.out⟩
  | true =>
    rw [h1] at HT
    cases h2 : hasBr h with
    | true =>
      have hv := lt_br h1 h2
      rw [hv] at HL
      rw [h2] at HB
      simp only at HL
      clear hv h1 h2
      go_enter Tryz.func3, Tryz.ntmps3
      go_wp2_with fail
      refine (HL.out _).mono ?_
      rintro e1 w1 ⟨rfl, hw⟩
      rw [hw]
      clear hw w1
      go_wp2_with fail
      refine (HT.out _).mono ?_
      rintro e2 w2 ⟨rfl, hb2⟩
      have HB2 := Lib.hid hb2
      clear hb2
      go_wp2_with fail
      refine (HB.out _).mono ?_
      rintro e7 w7 ⟨rfl, hw⟩
      rw [hw]
      clear hw w7
      go_wp2_with fail
      refine (HP1.out _).mono ?_
      rintro e3 w3 ⟨rfl, hb3⟩
      have HB3 := Lib.hid (HB2.out.trans (hb3.mono HB2.out.size))
      clear hb3
      go_wp2_with fail
      refine (HP2.out _).mono ?_
      rintro e4 w4 ⟨rfl, hb4⟩
      have HB4 := Lib.hid (HB3.out.trans (hb4.mono HB3.out.size))
      clear hb4
      go_wp2_with fail
      refine (HP3.out _ HB4.out).mono ?_
      rintro e5 w5 ⟨rfl, hb5⟩
      have HB5 := Lib.hid (HB4.out.trans (hb5.mono HB4.out.size))
      clear hb5
      go_wp2_with fail
      refine (HP4.out _ HB5.out).mono ?_
      rintro e6 w6 ⟨rfl, hb6⟩
      have HB6 := Lib.hid (HB5.out.trans (hb6.mono HB5.out.size))
      clear hb6
      go_wp2_with fail
      go_ret
      exact ⟨rfl, HB6.out⟩
    | false =>
      rw [h2] at HB
      by_cases h3 : h.toList = []
      · have z2 : h.toList.isEmpty = true := by rw [h3]; rfl
        have hv := lt_one h1 h2 h3
        rw [hv] at HL
        simp only at HL
        clear hv h1 h2
        go_enter Tryz.func3, Tryz.ntmps3
        go_wp2_with fail
        refine (HL.out _).mono ?_
        rintro e1 w1 ⟨rfl, hw⟩
        rw [hw]
        clear hw w1
        go_wp2_with fail
        refine (HT.out _).mono ?_
        rintro e2 w2 ⟨rfl, hb2⟩
        have HB2 := Lib.hid hb2
        clear hb2
        go_wp2_with fail
        refine (HB.out _).mono ?_
        rintro e7 w7 ⟨rfl, hw⟩
        rw [hw]
        clear hw w7
        go_wp2_with fail
        refine (HP1.out _).mono ?_
        rintro e3 w3 ⟨rfl, hb3⟩
        have HB3 := Lib.hid (HB2.out.trans (hb3.mono HB2.out.size))
        clear hb3
        go_wp2_with fail
        refine (HP2.out _).mono ?_
        rintro e4 w4 ⟨rfl, hb4⟩
        have HB4 := Lib.hid (HB3.out.trans (hb4.mono HB3.out.size))
        clear hb4
        go_wp2_with fail
        refine (HP3.out _ HB4.out).mono ?_
        rintro e5 w5 ⟨rfl, hb5⟩
        have HB5 := Lib.hid (HB4.out.trans (hb5.mono HB4.out.size))
        clear hb5
        go_wp2_with fail
        refine (HP4.out _ HB5.out).mono ?_
        rintro e6 w6 ⟨rfl, hb6⟩
        have HB6 := Lib.hid (HB5.out.trans (hb6.mono HB5.out.size))
        clear hb6
        go_wp2_with fail
        go_ret
        exact ⟨rfl, HB6.out⟩
      · have z2 : h.toList.isEmpty = false := by
          cases he : h.toList.isEmpty with
          | false => rfl
          | true => exact absurd (List.isEmpty_iff.1 he) h3
        have hv := lt_two h1 h2 h3
        rw [assoc_B] at hv
        rw [hv] at HL
        simp only at HL
        clear hv h1 h2
        go_enter Tryz.func3, Tryz.ntmps3
        go_wp2_with fail
        refine (HL.out _).mono ?_
        rintro e1 w1 ⟨rfl, hw⟩
        rw [hw]
        clear hw w1
        go_wp2_with fail
        refine (HT.out _).mono ?_
        rintro e2 w2 ⟨rfl, hb2⟩
        have HB2 := Lib.hid hb2
        clear hb2
        go_wp2_with fail
        refine (HB.out _).mono ?_
        rintro e7 w7 ⟨rfl, hw⟩
        rw [hw]
        clear hw w7
        go_wp2_with fail
        refine (HP1.out _).mono ?_
        rintro e3 w3 ⟨rfl, hb3⟩
        have HB3 := Lib.hid (HB2.out.trans (hb3.mono HB2.out.size))
        clear hb3
        go_wp2_with fail
        refine (HP2.out _).mono ?_
        rintro e4 w4 ⟨rfl, hb4⟩
        have HB4 := Lib.hid (HB3.out.trans (hb4.mono HB3.out.size))
        clear hb4
        go_wp2_with fail
        refine (HP3.out _ HB4.out).mono ?_
        rintro e5 w5 ⟨rfl, hb5⟩
        have HB5 := Lib.hid (HB4.out.trans (hb5.mono HB4.out.size))
        clear hb5
        go_wp2_with fail
        refine (HP4.out _ HB5.out).mono ?_
        rintro e6 w6 ⟨rfl, hb6⟩
        have HB6 := Lib.hid (HB5.out.trans (hb6.mono HB5.out.size))
        clear hb6
        go_wp2_with fail
        go_ret
        exact ⟨rfl, HB6.out⟩
end Go.Proofs.YticdapkljbillaaGreatDoor
