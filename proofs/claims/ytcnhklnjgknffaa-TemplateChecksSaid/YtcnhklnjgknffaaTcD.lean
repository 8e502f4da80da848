/- Templates: isNameByte, nameEnd, otherEnd of the program. -/
import Derived.Test.YtcnhklnjgknffaaTcC
namespace Go.Proofs.Ytcnhklnjgknffaa
open Go.RowKit Go.Shelf

set_option maxHeartbeats 1000000 in
theorem isNameByte_any (c : UInt8) (w : World) :
    Calls Try.prog 42 #[.int .u8 c.toNat] w fun e w' => e = .returned (.bool (isNm (c.toNat : Int))) ∧ w' = w := by
  go_enter Try.func42, Try.ntmps42
  go_wp2
  all_goals go_ret
  all_goals refine ⟨ret_bool ?_, rfl⟩
  all_goals rw [Bool.eq_iff_iff]
  all_goals simp [isNm]
  all_goals omega
theorem nmE_stop {s : ByteArray} {f e : Nat} (h : isNm (bAt s e) = false) : nmE s f e = e := by
  cases f with
  | zero => rfl
  | succ f => unfold nmE; rw [h]; rfl
theorem nmE_go {s : ByteArray} {f e : Nat} (h : isNm (bAt s e) = true) : nmE s (f + 1) e = nmE s f (e + 1) := by
  rw [nmE, if_pos h]

set_option maxRecDepth 100000 in
set_option maxHeartbeats 4000000 in
theorem nameEnd_any (s : ByteArray) (a : Nat) (w : World) (hs : s.size ≤ 400000) (ha : a ≤ s.size) :
    Calls Try.prog 21 #[.string s, .int .i64 a] w fun e w' => e = .returned (.int .i64 (nmEnd s a)) ∧ w' = w := by
  go_enter Try.func21, Try.ntmps21
  go_wp2_with fail
  go_loop [5] (fun ev => ∃ e : Nat, ev = .int .i64 e ∧ a ≤ e ∧ e ≤ a + 20 ∧ e ≤ s.size ∧ Hid (nmEnd s a = nmE s (20 - (e - a)) e)) (fun ev => s.size - (intOf ev).toNat)
  case atStart => exact ⟨a, rfl, Nat.le_refl _, by omega, ha, Lib.hid (by rw [Nat.sub_self]; rfl)⟩
  case round =>
    obtain ⟨e, rfl, e1, e2, e3, HE⟩ := hrel
    by_cases hlt : e < s.size
    · have p1 : (e : Int) < s.size := by omega
      by_cases h20 : e < a + 20
      · have p2 : (e : Int) < (a : Int) + 20 := by omega
        have HC := Lib.hid (isNameByte_any s[e] w)
        have hb := bAt_in hlt
        rcases hn : isNm (bAt s e) with _ | _
        · have HF : Hid (nmEnd s a = e) := Lib.hid (by rw [HE.out, nmE_stop hn])
          rw [hb] at hn
          rw [hn] at HC
          clear hb hn HE
          go_wp2_with (go_at_call 42; refine HC.out.mono ?_; rintro e w' ⟨rfl, rfl⟩)
          go_ret
          exact ⟨ret_int (by rw [HF.out]), rfl⟩
        · have HF : Hid (nmEnd s a = nmE s (20 - (e + 1 - a)) (e + 1)) := Lib.hid (by
            rw [HE.out, show 20 - (e - a) = (20 - (e + 1 - a)) + 1 by omega, nmE_go hn])
          rw [hb] at hn
          rw [hn] at HC
          clear hb hn HE
          go_wp2_with (go_at_call 42; refine HC.out.mono ?_; rintro e w' ⟨rfl, rfl⟩)
          go_round
          case rel => exact ⟨e + 1, by go_num, by omega, by omega, by omega, HF⟩
          case measure => simp [intOf]; omega
      · have p2 : ¬ (e : Int) < (a : Int) + 20 := by omega
        have HF : Hid (nmEnd s a = e) := Lib.hid (by rw [HE.out, show 20 - (e - a) = 0 by omega]; rfl)
        clear HE
        go_wp2_with fail
        go_ret
        exact ⟨ret_int (by rw [HF.out]), rfl⟩
    · have p1 : ¬ (e : Int) < s.size := by omega
      have HF : Hid (nmEnd s a = e) := Lib.hid (by rw [HE.out, nmE_stop (by rw [bAt_out (by omega)]; decide)])
      clear HE
      go_wp2_with fail
      go_ret
      exact ⟨ret_int (by rw [HF.out]), rfl⟩

set_option maxRecDepth 100000 in
set_option maxHeartbeats 4000000 in
theorem otherEnd_any (s : ByteArray) (a : Nat) (w : World) (hs : s.size ≤ 400000) (ha : a ≤ s.size) :
    Calls Try.prog 22 #[.string s, .int .i64 a] w fun e w' => e = .returned (.int .i64 (oEnd s a)) ∧ Below w.heap.size w w' := by
  have hac : Ascii ⟨#[123, 125, 10]⟩ := by
    intro j b hb
    rcases j with _ | _ | _ | j
    · simp at hb; subst hb; decide
    · simp at hb; subst hb; decide
    · simp at hb; subst hb; decide
    · simp at hb
  have hsz : (s.extract a s.size).size ≤ 4000000000 := by rw [ByteArray.size_extract]; omega
  have HC := Lib.hid (indexAny_any (s.extract a s.size) ⟨#[123, 125, 10]⟩ w hsz (by decide) (by decide) hac)
  have hA : anyOf (s.extract a s.size) ⟨#[123, 125, 10]⟩ = Lib.indexAny (s.extract a s.size).data.toList [123, 125, 10] := rfl
  have HO : Hid (oEnd s a = if Lib.indexAny (s.extract a s.size).data.toList [123, 125, 10] < 0 then s.size else a + (Lib.indexAny (s.extract a s.size).data.toList [123, 125, 10]).toNat) := Lib.hid rfl
  rcases indexAny_lt [123, 125, 10] (s.extract a s.size).data.toList with hr | hr
  · have p0 := hr
    rw [if_pos hr] at HO
    rw [hA] at HC
    generalize Lib.indexAny (s.extract a s.size).data.toList [123, 125, 10] = r at HC p0
    clear hr hA hac hsz
    have p1 : (a : Int) ≤ s.size := by omega
    go_enter Try.func22, Try.ntmps22
    go_wp2_with fail
    refine HC.out.mono ?_
    rintro e1 w1 ⟨rfl, hb1⟩
    have HB := Lib.hid hb1
    clear hb1
    go_wp2_with fail
    go_ret
    exact ⟨ret_int (by rw [HO.out]), HB.out⟩
  · rw [Lib.extract_to_end, List.length_drop, ← Lib.size_eq, ← Lib.extract_to_end] at hr
    by_cases hneg : Lib.indexAny (s.extract a s.size).data.toList [123, 125, 10] < 0
    · rw [if_pos hneg] at HO
      rw [hA] at HC
      generalize Lib.indexAny (s.extract a s.size).data.toList [123, 125, 10] = r at HC hneg hr
      clear hA hac hsz
      have p1 : (a : Int) ≤ s.size := by omega
      go_enter Try.func22, Try.ntmps22
      go_wp2_with fail
      refine HC.out.mono ?_
      rintro e1 w1 ⟨rfl, hb1⟩
      have HB := Lib.hid hb1
      clear hb1
      go_wp2_with fail
      go_ret
      exact ⟨ret_int (by rw [HO.out]), HB.out⟩
    · rw [if_neg hneg] at HO
      rw [hA] at HC
      generalize Lib.indexAny (s.extract a s.size).data.toList [123, 125, 10] = r at HC hneg hr HO
      clear hA hac hsz
      have p1 : (a : Int) ≤ s.size := by omega
      go_enter Try.func22, Try.ntmps22
      go_wp2_with fail
      refine HC.out.mono ?_
      rintro e1 w1 ⟨rfl, hb1⟩
      have HB := Lib.hid hb1
      clear hb1
      go_wp2_with fail
      go_ret
      exact ⟨ret_int (by rw [HO.out]; omega), HB.out⟩
end Go.Proofs.Ytcnhklnjgknffaa
