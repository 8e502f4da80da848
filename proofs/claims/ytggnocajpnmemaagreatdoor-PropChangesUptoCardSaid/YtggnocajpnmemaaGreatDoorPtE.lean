/- Properties: checkTitle, hasUnused, checkRange, days. -/
import Derived.Test.YtggnocajpnmemaaGreatDoorPtD
import Derived.WalkKit
import Derived.Lib.Hide
import Derived.Outline
import Derived.Below
import Derived.Deep.QuietTactic
import Derived.BigQuiet
namespace Go.Proofs.YtggnocajpnmemaaGreatDoor
open Go.RowKit Go.Shelf

theorem ctl_eq (s : ByteArray) : ctl s = ctlB s := rfl
/-! ### Trim at a space -/
def isSp (c : UInt8) : Bool := ([32] : List UInt8).contains c
theorem isSp_iff (c : UInt8) : isSp c = true ↔ c = 32 := by simp [isSp]
theorem drop_len (l : List UInt8) : (l.dropWhile isSp).length ≤ l.length := (List.dropWhile_sublist _).length_le
theorem drop_head {l : List UInt8} (h : l.head? = some 32) : (l.dropWhile isSp).length < l.length := by
  cases l with
  | nil => cases h
  | cons c l =>
    simp at h
    subst h
    rw [List.dropWhile_cons, if_pos (by decide)]
    have := drop_len l
    simp; omega
theorem drop_keep {l : List UInt8} (h : l.head? ≠ some 32) : l.dropWhile isSp = l := by
  cases l with
  | nil => rfl
  | cons c l =>
    rw [List.dropWhile_cons, if_neg]
    intro e
    exact h (by rw [(isSp_iff c).1 e]; rfl)
theorem trim_edge (l : List UInt8) : Lib.trimS l [32] = l ↔ edgeB l = false := by
  have e : Lib.trimS l [32] = ((l.reverse.dropWhile isSp).reverse).dropWhile isSp := rfl
  rw [e]
  unfold edgeB
  by_cases h2 : l.getLast? = some 32
  · have h3 : l.reverse.head? = some 32 := by rw [List.head?_reverse]; exact h2
    have h4 := drop_head h3
    have h5 := drop_len (l.reverse.dropWhile isSp).reverse
    constructor
    · intro h
      have := congrArg List.length h
      simp at h4 h5
      omega
    · intro h; rw [h2] at h; simp at h
  · have h3 : l.reverse.head? ≠ some 32 := by rw [List.head?_reverse]; exact h2
    rw [drop_keep h3, List.reverse_reverse]
    by_cases h1 : l.head? = some 32
    · have h4 := drop_head h1
      constructor
      · intro h
        have := congrArg List.length h
        omega
      · intro h; rw [h1] at h; simp at h
    · rw [drop_keep h1]
      simp [h1, h2]
def brSet : ByteArray := ⟨#[91, 93, 124]⟩
theorem br_any (s : ByteArray) : decide (0 ≤ anyOf s brSet) = s.data.toList.any brB := by
  have h := indexAny_pos brSet.data.toList s.data.toList
  have e : (fun c => brSet.data.toList.contains c) = brB := by
    funext c
    have h : ∀ n : Fin 256, brSet.data.toList.contains (UInt8.ofNat n.val) = brB (UInt8.ofNat n.val) := by decide +kernel
    have := h ⟨c.toNat, c.toNat_lt⟩
    simpa using this
  rw [e] at h
  unfold anyOf
  rw [Bool.eq_iff_iff, decide_eq_true_iff]
  exact h
theorem brSet_ascii : Ascii brSet := by
  intro j b hb
  have hm := List.mem_of_getElem? hb
  have h : ∀ b ∈ brSet.data.toList, b.toNat < 128 := by decide
  exact h b hm
theorem containsBr_any (s : ByteArray) (w : World) (hs : s.size ≤ 4000000000) :
    Calls Tryz.prog 33 #[.string s, .string ⟨#[91, 93, 124]⟩] w (Quiet w (.bool (s.data.toList.any brB))) := by
  have h := containsAny_any s brSet w hs (by decide) (by decide) brSet_ascii
  rw [br_any] at h
  exact h
theorem trimSp_any (s : ByteArray) (w : World) (hs : s.size ≤ 4000000000) : ∃ T : ByteArray, (edgeB s.data.toList = false → T = s) ∧ (edgeB s.data.toList = true → ¬ s.toList = T.toList ∧ ¬ T.toList = s.toList) ∧
    ∀ W, Calls Tryz.prog 32 #[.string s, .string ⟨#[32]⟩] W (Quiet W (.string T)) := by
  refine ⟨⟨(Lib.trimS s.data.toList [32]).toArray⟩, ?_, ?_, ?_⟩
  · intro h
    rw [(trim_edge _).2 h]
  · intro h
    have hne : ¬ Lib.trimS s.data.toList [32] = s.data.toList := fun e => by rw [(trim_edge _).1 e] at h; cases h
    constructor
    · intro e
      rw [ByteArray.toList_eq, ByteArray.toList_eq] at e
      exact hne e.symm
    · intro e
      rw [ByteArray.toList_eq, ByteArray.toList_eq] at e
      exact hne e
  · intro W
    exact trim_any s ⟨#[32]⟩ W (by omega) (by decide) (by
      intro j b hb
      have hm := List.mem_of_getElem? hb
      have h : ∀ b ∈ (⟨#[32]⟩ : ByteArray).data.toList, b.toNat < 128 := by decide
      exact h b hm)

set_option maxRecDepth 100000 in
set_option maxHeartbeats 4000000 in
theorem checkTitle_any (s : ByteArray) (w : World) (hs : s.size ≤ 1048576) : Calls Tryz.prog 102 #[.string s] w (Quiet w (.int .i64 (titleE s))) := by
  by_cases h1 : 100 < s.size
  · have HE : Hid (titleE s = 4) := Lib.hid (by unfold titleE; rw [if_pos h1])
    have p1 : (100 : Int) < s.size := by omega
    clear h1
    go_enter Tryz.func102, Tryz.ntmps102
    go_wp2
    go_ret
    exact ⟨ret_int HE.out.symm, Below.refl _ _⟩
  · have p1 : ¬ (100 : Int) < s.size := by omega
    have HK := Lib.hid (fun W => check_any s W (by omega))
    rcases hc : ctl s with _ | _
    · have hv : checkV s = 0 := by unfold checkV; rw [if_neg (by omega), if_neg (by simp [hc])]
      rw [hv] at HK
      by_cases h0 : s.size = 0
      · have z1 := str_empty h0
        have z2 := str_isEmpty h0
        have HE : Hid (titleE s = 1) := Lib.hid (by unfold titleE; rw [if_neg h1, if_neg (by rw [← ctl_eq, hc]; simp), if_pos (.inl h0)])
        clear h0 hv hc
        go_enter Tryz.func102, Tryz.ntmps102
        go_wp2_with fail
        refine (HK.out _).mono ?_
        rintro e1 w1 ⟨rfl, hw⟩
        rw [hw]
        clear hw
        go_wp2_with fail
        go_ret
        exact ⟨ret_int HE.out.symm, Below.refl _ _⟩
      · have z1 := str_full (by omega : 0 < s.size)
        have z2 := str_nonEmpty (by omega : 0 < s.size)
        obtain ⟨T, hT1, hT2, hT3⟩ := trimSp_any s w (by omega)
        have HT := Lib.hid hT3
        rcases he : edgeB s.data.toList with _ | _
        · obtain rfl := hT1 he
          have HA := Lib.hid (fun W => containsBr_any T W (by omega))
          rcases hb : T.data.toList.any brB with _ | _
          · have HE : Hid (titleE T = 0) := Lib.hid (by unfold titleE; rw [if_neg h1, if_neg (by rw [← ctl_eq, hc]; simp), if_neg (by rintro (h | h | h); exact h0 h; rw [he] at h; cases h; rw [hb] at h; cases h)])
            rw [hb] at HA
            clear hT1 hT2 hT3 hv hc he hb
            go_enter Tryz.func102, Tryz.ntmps102
            go_wp2_with fail
            refine (HK.out _).mono ?_
            rintro e1 w1 ⟨rfl, hw⟩
            rw [hw]
            clear hw
            go_wp2_with fail
            refine (HT.out _).mono ?_
            rintro e2 w2 ⟨rfl, hb2⟩
            have HB2 := Lib.hid hb2
            clear hb2
            go_wp2_with fail
            refine (HA.out _).mono ?_
            rintro e3 w3 ⟨rfl, hb3⟩
            have HB3 := Lib.hid (HB2.out.trans (hb3.mono HB2.out.size))
            clear hb3
            go_wp2_with fail
            go_ret
            exact ⟨ret_int HE.out.symm, HB3.out⟩
          · have HE : Hid (titleE T = 1) := Lib.hid (by unfold titleE; rw [if_neg h1, if_neg (by rw [← ctl_eq, hc]; simp), if_pos (.inr (.inr hb))])
            rw [hb] at HA
            clear hT1 hT2 hT3 hv hc he hb
            go_enter Tryz.func102, Tryz.ntmps102
            go_wp2_with fail
            refine (HK.out _).mono ?_
            rintro e1 w1 ⟨rfl, hw⟩
            rw [hw]
            clear hw
            go_wp2_with fail
            refine (HT.out _).mono ?_
            rintro e2 w2 ⟨rfl, hb2⟩
            have HB2 := Lib.hid hb2
            clear hb2
            go_wp2_with fail
            refine (HA.out _).mono ?_
            rintro e3 w3 ⟨rfl, hb3⟩
            have HB3 := Lib.hid (HB2.out.trans (hb3.mono HB2.out.size))
            clear hb3
            go_wp2_with fail
            go_ret
            exact ⟨ret_int HE.out.symm, HB3.out⟩
        · obtain ⟨d1, d2⟩ := hT2 he
          have HE : Hid (titleE s = 1) := Lib.hid (by unfold titleE; rw [if_neg h1, if_neg (by rw [← ctl_eq, hc]; simp), if_pos (.inr (.inl he))])
          clear hT1 hT2 hT3 hv hc he
          go_enter Tryz.func102, Tryz.ntmps102
          go_wp2_with fail
          refine (HK.out _).mono ?_
          rintro e1 w1 ⟨rfl, hw⟩
          rw [hw]
          clear hw
          go_wp2_with fail
          refine (HT.out _).mono ?_
          rintro e2 w2 ⟨rfl, hb2⟩
          have HB2 := Lib.hid hb2
          clear hb2
          go_wp2_with fail
          go_ret
          exact ⟨ret_int HE.out.symm, HB2.out⟩
    · have hv : checkV s = 9 := by unfold checkV; rw [if_neg (by omega), if_pos hc]
      rw [hv] at HK
      have HE : Hid (titleE s = 9) := Lib.hid (by unfold titleE; rw [if_neg h1, if_pos (by rw [← ctl_eq, hc])])
      clear hv hc
      go_enter Tryz.func102, Tryz.ntmps102
      go_wp2_with fail
      refine (HK.out _).mono ?_
      rintro e1 w1 ⟨rfl, hw⟩
      rw [hw]
      clear hw
      go_wp2_with fail
      go_ret
      exact ⟨ret_int HE.out.symm, Below.refl _ _⟩

set_option maxHeartbeats 1000000 in
theorem checkRange_any (n a b : Int) (w : World) : Calls Tryz.prog 99 #[.int .i64 n, .int .i64 a, .int .i64 b] w fun e w' => e = .returned (.int .i64 (rangeE n a b)) ∧ w' = w := by
  by_cases h1 : n < a
  · have HE : Hid (rangeE n a b = 2) := Lib.hid (rangeE_out (by omega))
    go_enter Tryz.func99, Tryz.ntmps99
    go_wp2
    go_ret
    exact ⟨ret_int HE.out.symm, rfl⟩
  · by_cases h2 : b < n
    · have HE : Hid (rangeE n a b = 2) := Lib.hid (rangeE_out (by omega))
      go_enter Tryz.func99, Tryz.ntmps99
      go_wp2
      go_ret
      exact ⟨ret_int HE.out.symm, rfl⟩
    · have HE : Hid (rangeE n a b = 0) := Lib.hid (rangeE_in (by omega))
      go_enter Tryz.func99, Tryz.ntmps99
      go_wp2
      go_ret
      exact ⟨ret_int HE.out.symm, rfl⟩
set_option maxHeartbeats 1000000 in
theorem isDay_any (n : Int) (w : World) : Calls Tryz.prog 154 #[.int .i64 n] w fun e w' => e = .returned (.bool (inR n 0 100000)) ∧ w' = w := by
  go_enter Tryz.func154, Tryz.ntmps154
  go_wp2
  all_goals go_ret
  all_goals refine ⟨ret_bool ?_, rfl⟩
  all_goals rw [Bool.eq_iff_iff]
  all_goals simp [inR]
  all_goals omega
set_option maxHeartbeats 1000000 in
theorem refIsDay_any (n : Int) (w : World) : Calls Tryz.prog 30 #[.int .i64 n] w fun e w' => e = .returned (.bool (inR n 0 100000)) ∧ w' = w := by
  go_enter Tryz.func30, Tryz.ntmps30
  go_wp2
  all_goals go_ret
  all_goals refine ⟨ret_bool ?_, rfl⟩
  all_goals rw [Bool.eq_iff_iff]
  all_goals simp [inR]
  all_goals omega
set_option maxHeartbeats 1000000 in
theorem isKind_any (n : Int) (w : World) : Calls Tryz.prog 97 #[.int .i64 n] w fun e w' => e = .returned (.bool (inR n 0 7)) ∧ w' = w := by
  go_enter Tryz.func97, Tryz.ntmps97
  go_wp2
  all_goals go_ret
  all_goals refine ⟨ret_bool ?_, rfl⟩
  all_goals rw [Bool.eq_iff_iff]
  all_goals simp [inR]
  all_goals omega
end Go.Proofs.YtggnocajpnmemaaGreatDoor
