/- Cards: the reference's Digits at whatever word. -/
import Derived.Test.YtnellkdiafglgaaDoorCdSb
import Derived.BigQuiet
namespace Go.Proofs.YtnellkdiafglgaaDoor
open Go.RowKit Go.Shelf Go.Joins

def digs : ByteArray := ⟨#[48, 49, 50, 51, 52, 53, 54, 55, 56, 57]⟩
theorem digs_has (b : UInt8) : digs.data.toList.contains b = decide (isDig b) := by
  have h : ∀ n : Fin 256, digs.data.toList.contains (UInt8.ofNat n.val) = decide (isDig (UInt8.ofNat n.val)) := by decide +kernel
  have := h ⟨b.toNat, b.toNat_lt⟩
  rwa [UInt8.ofNat_toNat] at this
theorem dropW_nil (p : UInt8 → Bool) : ∀ (l : List UInt8), l.dropWhile p = [] ↔ ∀ b ∈ l, p b = true
  | [] => by simp
  | a :: l => by
    rw [List.dropWhile_cons]
    by_cases h : p a = true
    · rw [if_pos h, dropW_nil p l]
      simp [h]
    · rw [if_neg h]
      simp [h]
theorem takeW_mem (p : UInt8 → Bool) : ∀ (l : List UInt8) (b : UInt8), b ∈ l.takeWhile p → p b = true
  | [], b, h => by simp at h
  | a :: l, b, h => by
    rw [List.takeWhile_cons] at h
    by_cases ha : p a = true
    · rw [if_pos ha] at h
      rcases List.mem_cons.1 h with e | e
      · rw [e]; exact ha
      · exact takeW_mem p l b e
    · rw [if_neg ha] at h
      simp at h
theorem trim_nil (l : List UInt8) : Lib.trimS l digs.data.toList = [] ↔ ∀ b ∈ l, isDig b := by
  unfold Lib.trimS Lib.trimLeftS Lib.trimRightS
  rw [dropW_nil]
  constructor
  · intro h b hb
    have hb' : b ∈ l.reverse.takeWhile (digs.data.toList.contains ·) ++ l.reverse.dropWhile (digs.data.toList.contains ·) := by
      rw [List.takeWhile_append_dropWhile]; simpa using hb
    have hc : digs.data.toList.contains b = true := by
      rcases List.mem_append.1 hb' with hm | hm
      · exact takeW_mem _ _ _ hm
      · exact h b (by simpa using hm)
    rw [digs_has] at hc
    exact of_decide_eq_true hc
  · intro h b hb
    have hm : b ∈ l := by
      have := (List.dropWhile_sublist (digs.data.toList.contains ·)).subset (by simpa using hb : b ∈ l.reverse.dropWhile (digs.data.toList.contains ·))
      simpa using this
    rw [digs_has]
    exact decide_eq_true (h b hm)
theorem below_drewN {B : Nat} {a w : World} (h : Below B a w) (q : Nat) : Below B a (w.drewN q) := h.trans ⟨rfl, rfl, rfl, by simp, fun _ _ => rfl⟩
theorem bytes_nil (T : ByteArray) : T.toList.isEmpty = true ↔ T.data.toList = [] := by
  rw [ByteArray.toList_eq, List.isEmpty_iff]
set_option maxRecDepth 100000 in
set_option maxHeartbeats 4000000 in
theorem digits_full (s : ByteArray) (w : World) (hz : s.size ≤ 2000) (hev : ErrV w) : Calls Tryd.prog 45 #[.string s, .int .i64 9] w fun e w' => NumGives s e ∧ Below w.heap.size w w' := by
  have HT := Lib.hid (fun W => Tryd.strings_TrimPrefix s ⟨#[45]⟩ W)
  obtain ⟨T, hT⟩ : ∃ T : ByteArray, T = ⟨(Lib.trimPrefix s.data.toList (⟨#[45]⟩ : ByteArray).data.toList).toArray⟩ := ⟨_, rfl⟩
  rw [← hT] at HT
  have hTc : T.data.toList = coreOf s.data.toList := by rw [hT]; rfl
  have hcl := core_le s.data.toList
  have hss : s.size = s.data.toList.length := Lib.size_eq s
  have hts : T.size = T.data.toList.length := Lib.size_eq T
  have HTR := Lib.hid (fun W => Tryd.strings_Trim_laid T digs W (by rw [← hTc] at hcl; omega) (by decide) (ascii_of_all (by decide)))
  obtain ⟨TR, hTR⟩ : ∃ TR : ByteArray, TR = ⟨(Lib.trimS T.data.toList digs.data.toList).toArray⟩ := ⟨_, rfl⟩
  rw [← hTR] at HTR
  have htr : TR.toList.isEmpty = true ↔ ∀ b ∈ T.data.toList, isDig b := by
    rw [bytes_nil, hTR, ← trim_nil]
  unfold digs at HTR
  have HBad : Hid (digBad s.data.toList → NumGives s (.returned (.tuple #[.int .i64 0, .bool false]))) := Lib.hid (fun h => by
    have hw := wordE_bad h
    exact ⟨0, by rw [hw]; rfl, by rw [hw]; intro m h; cases h⟩)
  clear hT hTR
  by_cases q1 : T.toList.isEmpty = true
  · have hbad := HBad.out (by unfold digBad; rw [← hTc]; exact Or.inl ((bytes_nil T).1 q1))
    have HG := Lib.hid hbad
    clear hbad htr hTc hcl hss hts HBad
    go_enter Tryd.func45, Tryd.ntmps45
    go_wp2_with fail
    refine (HT.out _).mono ?_
    rintro e1 w1 ⟨rfl, rfl⟩
    go_wp2_with fail
    go_ret2
    exact ⟨HG.out, Below.refl _ _⟩
  have q1 : T.toList.isEmpty = false := by simpa using q1
  by_cases q2 : (9 : Int) < (T.size : Int)
  · have hbad := HBad.out (by unfold digBad; rw [← hTc]; exact Or.inr (Or.inl (by omega)))
    have HG := Lib.hid hbad
    clear hbad htr hTc hcl hss hts HBad
    go_enter Tryd.func45, Tryd.ntmps45
    go_wp2_with fail
    refine (HT.out _).mono ?_
    rintro e1 w1 ⟨rfl, rfl⟩
    go_wp2_with fail
    go_ret2
    exact ⟨HG.out, Below.refl _ _⟩
  by_cases q3 : TR.toList.isEmpty = true
  case neg =>
    have hbad := HBad.out (by unfold digBad; rw [← hTc]; exact Or.inr (Or.inr (Or.inl (fun h => q3 (htr.2 h)))))
    have HG := Lib.hid hbad
    have q3 : TR.toList.isEmpty = false := by simpa using q3
    clear hbad htr hTc hcl hss hts HBad
    go_enter Tryd.func45, Tryd.ntmps45
    go_wp2_with fail
    refine (HT.out _).mono ?_
    rintro e1 w1 ⟨rfl, rfl⟩
    go_wp2_with fail
    refine (HTR.out _).mono ?_
    rintro e2 w2 ⟨rfl, hb2⟩
    have HB2 := Lib.hid hb2
    clear hb2
    go_wp2_with fail
    go_ret2
    exact ⟨HG.out, HB2.out⟩
  have hdg := htr.1 q3
  have q0 : ¬ T.data.toList = [] := fun h => by rw [(bytes_nil T).2 h] at q1; cases q1
  have h0l : 0 < T.data.toList.length := List.length_pos_iff.2 q0
  have h0 : 0 < T.size := by omega
  have hg0 : T.data.toList[0]? = some (T[0]'h0) := by
    rw [List.getElem?_eq_getElem h0l]
    rfl
  by_cases q4 : (1 : Int) < (T.size : Int)
  · by_cases q5 : ((T[0]'h0).toNat : Int) = 48
    · have hbad := HBad.out (by
        unfold digBad
        rw [← hTc]
        refine Or.inr (Or.inr (Or.inr (Or.inl ⟨by omega, ?_⟩)))
        rw [hg0]
        congr 1
        exact UInt8.toNat.inj (by have h48 : (48 : UInt8).toNat = 48 := rfl; omega))
      have HG := Lib.hid hbad
      clear hbad hdg q0 h0l hg0
      clear htr hTc hcl hss hts HBad
      go_enter Tryd.func45, Tryd.ntmps45
      go_wp2_with fail
      refine (HT.out _).mono ?_
      rintro e1 w1 ⟨rfl, rfl⟩
      go_wp2_with fail
      refine (HTR.out _).mono ?_
      rintro e2 w2 ⟨rfl, hb2⟩
      have HB2 := Lib.hid hb2
      clear hb2
      go_wp2_with fail
      go_ret2
      exact ⟨HG.out, HB2.out⟩
    · have q6 : ¬ T.toList = [48] := by
        intro h
        rw [ByteArray.toList_eq] at h
        rw [h] at hts
        simp at hts
        omega
      have q5b : (((T[0]'h0).toNat : Int) == 48) = false := by simpa using q5
      have q6b : (T.toList == [48]) = false := by simpa using q6
      have hnb : ¬ digBad s.data.toList := by
        unfold digBad
        rw [← hTc]
        rintro (h | h | h | h | h)
        · exact q0 h
        · omega
        · exact h hdg
        · rw [hg0] at h
          have := Option.some.inj h.2
          rw [this] at q5
          exact q5 rfl
        · exact q6 (by rw [ByteArray.toList_eq]; exact h.1)
      obtain ⟨n, ha, hw⟩ := wordE_good hnb
      have HA := Lib.hid (fun W => Tryd.strconv_Atoi s n (by rw [← hTc] at hcl; omega) ha W)
      have HG : Hid (NumGives s (.returned (.tuple #[.int .i64 n, .bool true]))) := Lib.hid ⟨n, by rw [hw]; rfl, by rw [hw]; intro m hm; exact Option.some.inj hm⟩
      clear hg0 hnb ha hw hdg q0 h0l
      clear htr hTc hcl hss hts HBad
      go_enter Tryd.func45, Tryd.ntmps45
      go_wp2_with fail
      refine (HT.out _).mono ?_
      rintro e1 w1 ⟨rfl, rfl⟩
      go_wp2_with fail
      refine (HTR.out _).mono ?_
      rintro e2 w2 ⟨rfl, hb2⟩
      have HB2 := Lib.hid hb2
      clear hb2
      go_wp2_with fail
      refine (HA.out _).mono ?_
      rintro e3 w3 ⟨rfl, t, rfl⟩
      have HB3 := Lib.hid (HB2.out.trans ((Lib.bytesWorld_below w2 5 t).mono HB2.out.size))
      go_upto_region 5 with fail
      go_quiet (fail)
      go_wp2_with fail
      go_ret2
      refine ⟨HG.out, ?_⟩
      first | exact HB3.out | exact HB3.out.drew | exact below_drewN HB3.out _
  · by_cases q6 : T.toList = [48]
    · by_cases q7 : s.toList = [48]
      · have q8 : (s.toList == [48]) = true := by simpa using q7
        have hnb : ¬ digBad s.data.toList := by
          unfold digBad
          rw [← hTc]
          rintro (h | h | h | h | h)
          · exact q0 h
          · omega
          · exact h hdg
          · omega
          · exact h.2 (by rw [← ByteArray.toList_eq]; exact q7)
        obtain ⟨n, ha, hw⟩ := wordE_good hnb
        have HA := Lib.hid (fun W => Tryd.strconv_Atoi s n (by rw [← hTc] at hcl; omega) ha W)
        have HG : Hid (NumGives s (.returned (.tuple #[.int .i64 n, .bool true]))) := Lib.hid ⟨n, by rw [hw]; rfl, by rw [hw]; intro m hm; exact Option.some.inj hm⟩
        clear hg0 hnb ha hw hdg q0 h0l
        clear htr hTc hcl hss hts HBad
        go_enter Tryd.func45, Tryd.ntmps45
        go_wp2_with fail
        refine (HT.out _).mono ?_
        rintro e1 w1 ⟨rfl, rfl⟩
        go_wp2_with fail
        refine (HTR.out _).mono ?_
        rintro e2 w2 ⟨rfl, hb2⟩
        have HB2 := Lib.hid hb2
        clear hb2
        go_wp2_with fail
        refine (HA.out _).mono ?_
        rintro e3 w3 ⟨rfl, t, rfl⟩
        have HB3 := Lib.hid (HB2.out.trans ((Lib.bytesWorld_below w2 5 t).mono HB2.out.size))
        go_upto_region 5 with fail
        go_quiet (fail)
        go_wp2_with fail
        go_ret2
        refine ⟨HG.out, ?_⟩
        first | exact HB3.out | exact HB3.out.drew | exact below_drewN HB3.out _
      · have hbad := HBad.out (by
          unfold digBad
          rw [← hTc]
          refine Or.inr (Or.inr (Or.inr (Or.inr ⟨by rw [← ByteArray.toList_eq]; exact q6, ?_⟩)))
          rw [← ByteArray.toList_eq]
          exact q7)
        have HG := Lib.hid hbad
        have q8 : (s.toList == [48]) = false := by simpa using q7
        clear hbad hdg q0 h0l hg0
        clear htr hTc hcl hss hts HBad
        go_enter Tryd.func45, Tryd.ntmps45
        go_wp2_with fail
        refine (HT.out _).mono ?_
        rintro e1 w1 ⟨rfl, rfl⟩
        go_wp2_with fail
        refine (HTR.out _).mono ?_
        rintro e2 w2 ⟨rfl, hb2⟩
        have HB2 := Lib.hid hb2
        clear hb2
        go_wp2_with fail
        go_ret2
        exact ⟨HG.out, HB2.out⟩
    · have hnb : ¬ digBad s.data.toList := by
        unfold digBad
        rw [← hTc]
        rintro (h | h | h | h | h)
        · exact q0 h
        · omega
        · exact h hdg
        · omega
        · exact q6 (by rw [ByteArray.toList_eq]; exact h.1)
      obtain ⟨n, ha, hw⟩ := wordE_good hnb
      have HA := Lib.hid (fun W => Tryd.strconv_Atoi s n (by rw [← hTc] at hcl; omega) ha W)
      have HG : Hid (NumGives s (.returned (.tuple #[.int .i64 n, .bool true]))) := Lib.hid ⟨n, by rw [hw]; rfl, by rw [hw]; intro m hm; exact Option.some.inj hm⟩
      clear hg0 hnb ha hw hdg q0 h0l
      clear htr hTc hcl hss hts HBad
      go_enter Tryd.func45, Tryd.ntmps45
      go_wp2_with fail
      refine (HT.out _).mono ?_
      rintro e1 w1 ⟨rfl, rfl⟩
      go_wp2_with fail
      refine (HTR.out _).mono ?_
      rintro e2 w2 ⟨rfl, hb2⟩
      have HB2 := Lib.hid hb2
      clear hb2
      go_wp2_with fail
      refine (HA.out _).mono ?_
      rintro e3 w3 ⟨rfl, t, rfl⟩
      have HB3 := Lib.hid (HB2.out.trans ((Lib.bytesWorld_below w2 5 t).mono HB2.out.size))
      go_upto_region 5 with fail
      go_quiet (fail)
      go_wp2_with fail
      go_ret2
      refine ⟨HG.out, ?_⟩
      first | exact HB3.out | exact HB3.out.drew | exact below_drewN HB3.out _
end Go.Proofs.YtnellkdiafglgaaDoor
