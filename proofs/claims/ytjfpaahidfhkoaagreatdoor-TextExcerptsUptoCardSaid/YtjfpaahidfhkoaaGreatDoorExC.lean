/- Both excerpts. -/
import Derived.Test.YtjfpaahidfhkoaaGreatDoorExA
import Derived.Test.YtjfpaahidfhkoaaGreatDoorExB
import Derived.Test.YtjfpaahidfhkoaaGreatDoorShelf
import Derived.WalkKit
import Derived.Lib.Hide
import Derived.Outline
import Derived.Deep.DeepCutAuto
import Derived.Deep.CutBlock
import Derived.Deep.LoopGhost
import Derived.Deep.QuietTactic
import Derived.BigQuiet
import Derived.BigRegion
import Derived.WalkMore
namespace Go.Proofs.YtjfpaahidfhkoaaGreatDoor
open Go.RowKit

theorem below_same {w w' : World} (h : w' = w ∨ w' = w.drew) : Below w.heap.size w w' := by
  rcases h with rfl | rfl
  · exact Below.refl _ _
  · exact below_drewN w 1

/-- The program's excerpt of a trimmed string. -/
def exB (B : ByteArray) (n : Nat) : ByteArray :=
  if B.size ≤ n then B else if B.data.toList.getD n 0 = 32 then ⟨(Lib.trimRightB (B.extract 0 n).data.toList 32).toArray⟩
  else if Lib.lastIndexByte (B.extract 0 n) 32 < 0 then B.extract 0 n
  else ⟨(Lib.trimRightB (B.extract 0 (Lib.lastIndexByte (B.extract 0 n) 32).toNat).data.toList 32).toArray⟩
theorem toList_size (B : ByteArray) : B.data.toList.length = B.size := by rw [Array.length_toList]; rfl
theorem cut_list (B : ByteArray) (k : Nat) : (B.extract 0 k).data.toList = B.data.toList.take k := by rw [Lib.extract_upto]
theorem exB_eq (B : ByteArray) (n : Nat) : exB B n = ⟨(progEx B.data.toList n).toArray⟩ := by
  unfold exB progEx lastSp
  rw [toList_size, ← Lib.extract_upto]
  split
  · rfl
  split
  · rw [cut_list]
  split
  · rw [Lib.extract_upto]
  · rw [cut_list]
/-- The reference's. -/
def refB (B : ByteArray) (n : Nat) : ByteArray :=
  ⟨(Lib.trimRightB (if n < B.size then B.extract 0 (if backK B.data.toList n = 0 then n else backK B.data.toList n) else B).data.toList 32).toArray⟩
theorem refB_eq (B : ByteArray) (n : Nat) : refB B n = ⟨(refEx B.data.toList n).toArray⟩ := by
  unfold refB refEx
  rw [toList_size]
  by_cases h : n < B.size
  · rw [if_pos h, if_pos h, cut_list]
  · rw [if_neg h, if_neg h]
/-- What both cut: what is shown, without spaces at its ends. -/
def trimmed (s : ByteArray) : ByteArray := ⟨(Lib.trimB (shownL s (spans s)) 32).toArray⟩
def exOf (s : ByteArray) (m : Int) : ByteArray := if m ≤ 0 then ⟨#[]⟩ else exB (trimmed s) m.toNat
def exRef (s : ByteArray) (m : Int) : ByteArray := if m ≤ 0 then ⟨#[]⟩ else refB (trimmed s) m.toNat
theorem ex_same (s : ByteArray) (m : Int) : exRef s m = exOf s m := by
  unfold exRef exOf
  split
  · rfl
  · have h := trimB_ends (shownL s (spans s)) 32
    rw [refB_eq, exB_eq]
    have e : (trimmed s).data.toList = Lib.trimB (shownL s (spans s)) 32 := rfl
    rw [e, ex_eq _ _ (by omega) h.1 h.2]
theorem dropWhile_len (l : List UInt8) (p : UInt8 → Bool) : (l.dropWhile p).length ≤ l.length := List.Sublist.length_le (List.dropWhile_sublist p)
theorem trimmed_size (s : ByteArray) : (trimmed s).size ≤ s.size := by
  have h1 := accS_size s (spans s).length
  rw [accS_end] at h1
  have e : (⟨(shownL s (spans s)).toArray⟩ : ByteArray).size = (shownL s (spans s)).length := by simp [ByteArray.size]
  have e2 : (trimmed s).size = (Lib.trimB (shownL s (spans s)) 32).length := by simp [trimmed, ByteArray.size]
  have h2 : (Lib.trimB (shownL s (spans s)) 32).length ≤ (shownL s (spans s)).length := by
    unfold Lib.trimB Lib.trimLeftB Lib.trimRightB
    refine Nat.le_trans (dropWhile_len _ _) ?_
    rw [List.length_reverse]
    refine Nat.le_trans (dropWhile_len _ _) ?_
    rw [List.length_reverse]
    exact Nat.le_refl _
  omega
theorem plain_size (s : ByteArray) : (⟨(shownL s (spans s)).toArray⟩ : ByteArray).size ≤ s.size := by
  have h1 := accS_size s (spans s).length
  rw [accS_end] at h1
  exact h1
theorem getD_byte {B : ByteArray} {n : Nat} (h : n < B.size) : B.data.toList.getD n 0 = B[n] := by
  rw [List.getD_eq_getElem?_getD, List.getElem?_eq_getElem (by rw [toList_size]; exact h)]
  rfl
theorem byte_ne {c : UInt8} (h : c ≠ 32) : ((c.toNat : Int) != 32) = true ∧ ((c.toNat : Int) == 32) = false := by
  have h2 : (c.toNat : Int) ≠ 32 := fun e => h (by
    apply UInt8.toNat_inj.1
    have : c.toNat = 32 := by omega
    rw [this]; rfl)
  constructor
  · simpa using h2
  · simpa using h2
theorem byte_is {c : UInt8} (h : c = 32) : ((c.toNat : Int) != 32) = false ∧ ((c.toNat : Int) == 32) = true := by
  rw [h]; exact ⟨rfl, rfl⟩

set_option maxRecDepth 100000 in
set_option maxHeartbeats 4000000 in
theorem excerpt_any (s : ByteArray) (m : Int) (w : World) (hs : s.size ≤ 1048576) (hm : m ≤ 9223372036854775807) :
    Calls Tryz.prog 34 #[.string s, .int .i64 m] w (Quiet w (.string (exOf s m))) := by
  by_cases h0 : m ≤ 0
  · have e : exOf s m = ⟨#[]⟩ := by unfold exOf; rw [if_pos h0]
    rw [e]
    clear e hm
    go_enter Tryz.func34, Tryz.ntmps34
    go_wp2_with fail
    go_ret
    exact ⟨rfl, Below.refl _ _⟩
  · obtain ⟨n, rfl⟩ := Int.eq_ofNat_of_zero_le (show 0 ≤ m by omega)
    have e : exOf s n = exB (trimmed s) n := by unfold exOf; rw [if_neg h0, Int.toNat_natCast]
    have p0 : ¬ (n : Int) ≤ 0 := h0
    rw [e]
    clear e
    have hz := trimmed_size s
    obtain ⟨B, hB⟩ : ∃ B, B = trimmed s := ⟨_, rfl⟩
    have hTR := fun W => Tryz.strings_Trim_one ⟨(shownL s (spans s)).toArray⟩ 32 (by decide) W (by have := plain_size s; omega)
    have hB' : (⟨(Lib.trimB ((⟨(shownL s (spans s)).toArray⟩ : ByteArray).data.toList) 32).toArray⟩ : ByteArray) = B := hB.symm
    simp only [hB'] at hTR
    have HTR := Lib.hid hTR
    rw [← hB] at hz ⊢
    clear hB hB' hTR
    go_enter Tryz.func34, Tryz.ntmps34
    go_wp2_with fail
    refine (plainOf_all s _ (by omega)).mono ?_
    rintro e1 w1 ⟨rfl, hb1⟩
    have HB1 := Lib.hid hb1
    clear hb1
    go_wp2_with fail
    refine (HTR.out _).mono ?_
    rintro e2 w2 ⟨rfl, hb2⟩
    have hb := HB1.out.trans ((below_same hb2).mono HB1.out.size)
    have HB := Lib.hid hb
    clear hb2 hb
    by_cases hl : B.size ≤ n
    · have p1 : (B.size : Int) ≤ n := by omega
      have e : exB B n = B := by unfold exB; rw [if_pos hl]
      have HE := Lib.hid e
      clear e
      go_wp2_with fail
      go_ret
      exact ⟨by rw [HE.out]; rfl, HB.out⟩
    · have p1 : ¬ (B.size : Int) ≤ n := by omega
      have hn : n < B.size := by omega
      have gb := getD_byte hn
      by_cases h32 : B[n] = 32
      · have q := (byte_is h32).1
        have e : exB B n = ⟨(Lib.trimRightB (B.data.toList.take n) 32).toArray⟩ := by unfold exB; rw [if_neg hl, if_pos (by rw [gb]; exact h32), cut_list]
        have HE := Lib.hid e
        clear e gb h32
        go_wp2_with fail
        refine (Tryz.strings_TrimRight_one (B.extract 0 n) 32 (by decide) _ (by rw [ByteArray.size_extract]; omega)).mono ?_
        rintro e3 w3 ⟨rfl, rfl⟩
        go_wp2_with fail
        go_ret
        exact ⟨by rw [HE.out]; rfl, HB.out⟩
      · have q := (byte_ne h32).1
        obtain ⟨L, hL⟩ : ∃ L, L = Lib.lastIndexByte (B.extract 0 n) 32 := ⟨_, rfl⟩
        have hLI := fun W => Tryz.strings_LastIndexByte (B.extract 0 n) 32 (by rw [ByteArray.size_extract]; omega) W
        rw [← hL] at hLI
        have HLI := Lib.hid hLI
        have hsp : L = -1 ∨ ∃ i : Nat, i < n ∧ L = (i : Int) := by
          have hz2 : (B.extract 0 n).size = n := by rw [ByteArray.size_extract]; omega
          rcases Lib.lastIndexByte_spec (B.extract 0 n) 32 with ⟨h1, _⟩ | ⟨i, h1, h2, _⟩
          · exact .inl (hL.trans h1)
          · exact .inr ⟨i, by rw [hz2] at h1; exact h1, hL.trans h2⟩
        have e : exB B n = if L < 0 then B.extract 0 n else ⟨(Lib.trimRightB (B.data.toList.take L.toNat) 32).toArray⟩ := by
          unfold exB; rw [if_neg hl, if_neg (by rw [gb]; exact h32), ← hL, cut_list]
        clear gb h32 hL hLI
        rcases hsp with rfl | ⟨i, hi, rfl⟩
        · rw [if_pos (by omega)] at e
          have HE := Lib.hid e
          clear e
          go_wp2_with fail
          refine (HLI.out _).mono ?_
          rintro e3 w3 ⟨rfl, rfl⟩
          go_wp2_with fail
          go_ret
          exact ⟨by rw [HE.out]; rfl, HB.out⟩
        · rw [if_neg (by omega), Int.toNat_natCast] at e
          have HE := Lib.hid e
          clear e
          have p4 : ¬ (i : Int) < 0 := by omega
          go_wp2_with fail
          refine (HLI.out _).mono ?_
          rintro e3 w3 ⟨rfl, rfl⟩
          go_wp2_with fail
          refine (Tryz.strings_TrimRight_one (B.extract 0 i) 32 (by decide) _ (by rw [ByteArray.size_extract]; omega)).mono ?_
          rintro e4 w4 ⟨rfl, rfl⟩
          go_wp2_with fail
          go_ret
          exact ⟨by rw [HE.out]; rfl, HB.out⟩
end Go.Proofs.YtjfpaahidfhkoaaGreatDoor
