/- The reference's excerpt; the law TextExcerpts returns true, and leaves what lay in memory as it was. -/
import Derived.Test.YtjfpaahidfhkoaaGreatDoorExC
import Derived.WalkKit
import Derived.Lib.Hide
import Derived.Outline
import Derived.Deep.DeepCutAuto
import Derived.Deep.CutBlock
import Derived.Deep.LoopGhost
import Derived.Deep.QuietTactic
import Derived.BigQuiet
import Derived.BigRegion
import Derived.WalkMore
namespace Go.Proofs.YtjfpaahidfhkoaaGreatDoor
open Go.RowKit

theorem backK_stop {l : List UInt8} {k : Nat} (h1 : l.getD k 0 ≠ 32) (h2 : l.getD (k + 1) 0 = 32) : backK l (k + 1) = k + 1 := by
  unfold backK; rw [if_pos ⟨h1, h2⟩]
theorem backK_down {l : List UInt8} {k : Nat} (h : ¬ (l.getD k 0 ≠ 32 ∧ l.getD (k + 1) 0 = 32)) : backK l (k + 1) = backK l k := by
  conv => lhs; unfold backK
  rw [if_neg h]

set_option maxRecDepth 100000 in
set_option maxHeartbeats 4000000 in
theorem excerptOf_any (s : ByteArray) (m : Int) (w : World) (hs : s.size ≤ 1048576) (hm : m ≤ 9223372036854775807) :
    Calls Tryz.prog 35 #[.string s, .int .i64 m] w (Quiet w (.string (exRef s m))) := by
  have hz := trimmed_size s
  obtain ⟨B, hB⟩ : ∃ B, B = trimmed s := ⟨_, rfl⟩
  have hTR := fun W => Tryz.strings_Trim_one ⟨(shownL s (spans s)).toArray⟩ 32 (by decide) W (by have := plain_size s; omega)
  have hB' : (⟨(Lib.trimB ((⟨(shownL s (spans s)).toArray⟩ : ByteArray).data.toList) 32).toArray⟩ : ByteArray) = B := hB.symm
  simp only [hB'] at hTR
  have HTR := Lib.hid hTR
  have HEX : Hid (exRef s m = if m ≤ 0 then ⟨#[]⟩ else refB B m.toNat) := Lib.hid (by unfold exRef; rw [hB])
  rw [← hB] at hz
  have hTRR : ∀ (T : ByteArray) (W : World), T.size ≤ 1048576 → Calls Tryz.prog 69 #[.string T, .string ⟨#[32]⟩] W fun e w' => e = .returned (.string ⟨(Lib.trimRightB T.data.toList 32).toArray⟩) ∧ w' = W :=
    fun T W h => Tryz.strings_TrimRight_one T 32 (by decide) W (by omega)
  have HTRR := Lib.hid hTRR
  clear hB hB' hTR hTRR
  go_enter Tryz.func35, Tryz.ntmps35
  go_wp2_with fail
  refine (plainText_any s _ hs).mono ?_
  rintro e1 w1 ⟨rfl, hb1⟩
  have HB1 := Lib.hid hb1
  clear hb1
  go_wp2_with fail
  refine (HTR.out _).mono ?_
  rintro e2 w2 ⟨rfl, hb2⟩
  have hb := HB1.out.trans ((below_same hb2).mono HB1.out.size)
  have HB := Lib.hid hb
  clear hb2 hb
  by_cases h0 : m ≤ 0
  · have HE : Hid (exRef s m = ⟨#[]⟩) := Lib.hid (by rw [HEX.out, if_pos h0])
    go_wp2_with fail
    go_ret
    exact ⟨by rw [HE.out]; rfl, HB.out⟩
  · obtain ⟨n, rfl⟩ := Int.eq_ofNat_of_zero_le (show 0 ≤ m by omega)
    have HE : Hid (exRef s n = refB B n) := Lib.hid (by rw [HEX.out, if_neg h0, Int.toNat_natCast])
    by_cases hl : n < B.size
    · have p1 : (n : Int) < B.size := by omega
      obtain ⟨kk, hkk⟩ : ∃ kk, kk = backK B.data.toList n := ⟨_, rfl⟩
      have hkn : kk ≤ n := by rw [hkk]; exact backK_le _ _
      have HE2 : Hid (exRef s n = ⟨(Lib.trimRightB ((B.data.toList).take (if kk = 0 then n else kk)) 32).toArray⟩) := Lib.hid (by
        rw [HE.out]; unfold refB; rw [if_pos hl, ← hkk, cut_list])
      have HKK := Lib.hid hkk
      clear hkk
      go_wp2_with fail
      go_loop [6] (fun i => ∃ k : Nat, k ≤ n ∧ i = .int .i64 k ∧ Hid (backK B.data.toList k = kk)) (fun i => (intOf i).toNat)
      case atStart => exact ⟨n, Nat.le_refl _, rfl, Lib.hid HKK.out.symm⟩
      case round =>
        obtain ⟨k, hk, rfl, HK⟩ := hrel
        cases k with
        | zero =>
          have hk0 : kk = 0 := by rw [← HK.out]; rfl
          have HE3 : Hid (exRef s n = ⟨(Lib.trimRightB ((B.data.toList).take n) 32).toArray⟩) := Lib.hid (by rw [HE2.out, if_pos hk0])
          clear hk0
          go_wp2_with fail
          refine (HTRR.out (B.extract 0 n) _ (by rw [ByteArray.size_extract]; omega)).mono ?_
          rintro e3 w3 ⟨rfl, rfl⟩
          go_wp2_with fail
          go_ret
          exact ⟨by rw [HE3.out]; simp, HB.out⟩
        | succ k =>
          have b1 : k < B.size := by omega
          have b2 : k + 1 < B.size := by omega
          have g1 := getD_byte b1
          have g2 := getD_byte b2
          have x1 := fun W => index_at (P := Tryz.prog) (t := 9) (s := B) (k := .i64) (i := (k : Int)) (n := k) Tryz.underlying9 rfl b1 W
          have x2 := fun W => index_at (P := Tryz.prog) (t := 9) (s := B) (k := .i64) (i := (k : Int) + 1) (n := k + 1) Tryz.underlying9 (by omega) b2 W
          have k0 : (0 : Int) < (k : Int) + 1 := by omega
          by_cases h1 : B[k] = 32
          · have q1 := (byte_is h1).1
            have HK2 : Hid (backK B.data.toList k = kk) := Lib.hid (by
              rw [← HK.out, backK_down (fun h => h.1 (by rw [g1]; exact h1))])
            clear h1 g1 g2
            go_wp2_with fail
            go_round
            case rel => exact ⟨k, by omega, by go_num, HK2⟩
            case measure => simp [intOf]
          · by_cases h2 : B[k + 1] = 32
            · have q1 := (byte_ne h1).1
              have q2 := (byte_is h2).2
              have hk1 : kk = k + 1 := by
                rw [← HK.out]; exact backK_stop (by rw [g1]; exact h1) (by rw [g2]; exact h2)
              have HE3 : Hid (exRef s n = ⟨(Lib.trimRightB ((B.data.toList).take (k + 1)) 32).toArray⟩) := Lib.hid (by rw [HE2.out, if_neg (by omega), hk1])
              clear h1 h2 g1 g2 hk1
              go_wp2_with fail
              refine (HTRR.out (B.extract 0 (k + 1)) _ (by rw [ByteArray.size_extract]; omega)).mono ?_
              rintro e3 w3 ⟨rfl, rfl⟩
              go_wp2_with fail
              go_ret
              exact ⟨by rw [HE3.out]; simp, HB.out⟩
            · have q1 := (byte_ne h1).1
              have q2 := (byte_ne h2).2
              have HK2 : Hid (backK B.data.toList k = kk) := Lib.hid (by
                rw [← HK.out, backK_down (fun h => h2 (by rw [← g2]; exact h.2))])
              clear h1 h2 g1 g2
              go_wp2_with fail
              go_round
              case rel => exact ⟨k, by omega, by go_num, HK2⟩
              case measure => simp [intOf]
    · have p1 : ¬ (n : Int) < B.size := by omega
      have HE3 : Hid (exRef s n = ⟨(Lib.trimRightB (B.data.toList) 32).toArray⟩) := Lib.hid (by rw [HE.out]; unfold refB; rw [if_neg hl])
      go_wp2_with fail
      refine (HTRR.out B _ (by omega)).mono ?_
      rintro e3 w3 ⟨rfl, rfl⟩
      go_wp2_with fail
      go_ret
      exact ⟨by rw [HE3.out]; rfl, HB.out⟩

set_option maxRecDepth 100000 in
set_option maxHeartbeats 4000000 in
theorem textExcerpts_any (s : ByteArray) (m : Int) (w : World) (hs : s.size ≤ 1048576) (hm : m ≤ 9223372036854775807) :
    Calls Tryz.prog 5 #[.string s, .int .i64 m] w (Quiet w (.bool true)) := by
  have h1 := fun W => excerpt_any s m W hs hm
  have h2 := fun W => excerptOf_any s m W hs hm
  rw [ex_same] at h2
  obtain ⟨R, hR⟩ : ∃ R, R = exOf s m := ⟨_, rfl⟩
  rw [← hR] at h1 h2
  have H1 := Lib.hid h1
  have H2 := Lib.hid h2
  clear h1 h2 hR
  go_enter Tryz.func5, Tryz.ntmps5
  go_wp2_with fail
  refine (H1.out _).mono ?_
  rintro e1 w1 ⟨rfl, hb1⟩
  have HB1 := Lib.hid hb1
  clear hb1
  go_wp2_with fail
  refine (H2.out _).mono ?_
  rintro e2 w2 ⟨rfl, hb2⟩
  have HB2 := Lib.hid hb2
  clear hb2
  go_wp2_with fail
  go_ret
  exact ⟨by simp, HB1.out.trans (HB2.out.mono HB1.out.size)⟩
end Go.Proofs.YtjfpaahidfhkoaaGreatDoor
