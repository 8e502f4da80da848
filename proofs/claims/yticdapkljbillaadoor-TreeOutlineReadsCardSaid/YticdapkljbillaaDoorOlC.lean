/- Outlines: strings.Cut at a line feed; a line (parseLine); the reference's lines (linesOf). -/
import Derived.Test.YticdapkljbillaaDoorOlB
import Derived.Test.YticdapkljbillaaDoorShelf
import Derived.Lib.CutLaws
import Derived.Lib.IndexBytes
import Derived.WalkKit
import Derived.Lib.Hide
import Derived.Outline
import Derived.Below
import Derived.Laws.DeepStrings4
import Derived.Deep.QuietTactic
import Derived.BigQuiet
namespace Go.Proofs.YticdapkljbillaaDoor
open Go.RowKit Go.Shelf

theorem extract_S (s : ByteArray) (a b : List UInt8) (h : s.data.toList = a ++ 10 :: b) : s.extract 0 a.length = ⟨a.toArray⟩ ∧ s.extract (a.length + 1) s.size = ⟨b.toArray⟩ := by
  constructor
  · apply ByteArray.ext
    apply Array.ext'
    rw [extract_L, h]
    simp
  · apply ByteArray.ext
    apply Array.ext'
    rw [extract_L, h, sizeL, h]
    rw [show a.length + 1 = (a ++ [10]).length by simp, show a ++ 10 :: b = (a ++ [10]) ++ b by simp, List.drop_left, List.take_of_length_le (by simp; omega)]
theorem idx_ten (l : List UInt8) : Lib.indexByte l 10 = Lib.index l [10] := (Lib.index_one l 10).symm

/-- What Cut at a line feed gives. -/
structure CutTen (s a b : ByteArray) (ok : Bool) : Prop where
  eq : Lib.cut s.data.toList [10] = (a.data.toList, b.data.toList, ok)

set_option maxHeartbeats 1000000 in
theorem liteCut_any (s : ByteArray) (w : World) (hs : s.size ≤ 400000) :
    Calls Tryd.prog 31 #[.string s, .string ⟨#[10]⟩] w fun e w' => ∃ a b ok, CutTen s a b ok ∧ e = .returned (.tuple #[.string a, .string b, .bool ok]) ∧ ∃ n, w' = w.drewN n := by
  rcases index_ten s.data.toList with ⟨h1, h2⟩ | ⟨a, b, h1, h2, h3⟩
  · have hc : CutTen s s ⟨#[]⟩ false := ⟨by unfold Lib.cut; rw [h1, if_neg (by decide)]⟩
    have HC := Lib.hid hc
    have HI : Hid (Lib.indexByte s.data.toList 10 = -1) := Lib.hid (by rw [idx_ten]; exact h1)
    clear hc h1 h2
    go_enter Tryd.func31, Tryd.ntmps31
    go_wp2_with fail
    refine (Tryd.stringslite_Index_one _ _ _).mono ?_
    rintro e1 w1 ⟨rfl, rfl⟩
    rw [HI.out]
    go_wp2
    go_ret3
    exact ⟨_, _, _, HC.out, rfl, 0, rfl⟩
  · obtain ⟨e1, e2⟩ := extract_S s a b h1
    have hz : a.length < s.size := by rw [sizeL, h1]; simp
    have hc : CutTen s (s.extract 0 a.length) (s.extract (a.length + 1) s.size) true := ⟨by
      unfold Lib.cut
      rw [h3, if_pos (by omega), e1, e2, h1]
      simp⟩
    obtain ⟨i, hi⟩ : ∃ i, i = a.length := ⟨_, rfl⟩
    rw [← hi] at hc h3 hz
    have HC := Lib.hid hc
    have HI : Hid (Lib.indexByte s.data.toList 10 = (i : Int)) := Lib.hid (by rw [idx_ten]; exact h3)
    have c1 : (0 : Int) ≤ ↑i := by omega
    have c2 : (↑i : Int) ≤ ↑s.size := by omega
    have c3 : (0 : Int) ≤ ↑i + 1 := by omega
    have c4 : (↑i + 1 : Int) ≤ ↑s.size := by omega
    clear hc h1 h2 h3 hi e1 e2
    go_enter Tryd.func31, Tryd.ntmps31
    go_wp2_with fail
    refine (Tryd.stringslite_Index_one _ _ _).mono ?_
    rintro e1 w1 ⟨rfl, rfl⟩
    rw [HI.out]
    go_wp2
    go_region
    go_wp2
    go_ret3
    exact ⟨_, _, _, HC.out, rfl, 1, rfl⟩

set_option maxHeartbeats 1000000 in
theorem cut_any (s : ByteArray) (w : World) (hs : s.size ≤ 400000) :
    Calls Tryd.prog 13 #[.string s, .string ⟨#[10]⟩] w fun e w' => ∃ a b ok, CutTen s a b ok ∧ e = .returned (.tuple #[.string a, .string b, .bool ok]) ∧ Below w.heap.size w w' := by
  have HC := Lib.hid (liteCut_any s w hs)
  go_enter Tryd.func13, Tryd.ntmps13
  go_wp2_with fail
  refine HC.out.mono ?_
  rintro e1 w1 ⟨a, b, ok, h, rfl, n, rfl⟩
  have H := Lib.hid h
  clear h
  go_wp2
  go_ret3
  exact ⟨_, _, _, H.out, rfl, ⟨rfl, rfl, rfl, Nat.le_refl _, fun _ _ => rfl⟩⟩

set_option maxHeartbeats 1000000 in
theorem parseLine_any (s : ByteArray) (w : World) (hs : s.size ≤ 400000) :
    Calls Tryd.prog 14 #[.string s] w fun e w' => e = .returned (.tuple #[.agg #[.int .i64 (lnOf s.data.toList).depth, .string (lnOf s.data.toList).text], .bool (lineOk s.data.toList)]) ∧ Below w.heap.size w w' := by
  obtain ⟨T, hT⟩ : ∃ T : ByteArray, T = ⟨(Lib.trimLeftB s.data.toList 32).toArray⟩ := ⟨_, rfl⟩
  have hl : T.data.toList = Lib.trimLeftB s.data.toList 32 := by rw [hT]
  have hTs : T.size = (Lib.trimLeftB s.data.toList 32).length := by rw [sizeL, hl]
  have hle := trim_len s.data.toList
  have hsz := sizeL s
  have hd : (lnOf s.data.toList).depth = (s.size - T.size) / 2 := by show spL s.data.toList / 2 = _; unfold spL; rw [hTs, hsz]
  have hx : (lnOf s.data.toList).text = ⟨(Lib.trimPrefix T.data.toList [45, 32]).toArray⟩ := by rw [hl]; rfl
  obtain ⟨d, hd2⟩ : ∃ d, d = s.size - T.size := ⟨_, rfl⟩
  have hdi : (s.size : Int) - T.size = d := by omega
  have hok : lineOk s.data.toList = (Lib.hasPrefix T.data.toList [45, 32] && decide (d % 2 = 0)) := by
    unfold lineOk spL; rw [hl, hd2, hTs, hsz]
  rw [← hd2] at hd
  have d0 : d ≤ 400000 := by omega
  rw [hd, hx, hok]
  have hle2 : (T.size : Int) ≤ s.size := by omega
  have hdq : ((s.size : Int) - T.size) / 2 = ((d / 2 : Nat) : Int) := by omega
  have HT := Lib.hid hT
  have HDI := Lib.hid hdi
  have HDQ := Lib.hid hdq
  clear hl hTs hle hsz hd hx hok hd2 hT hdi hdq
  obtain ⟨X, hX⟩ : ∃ X : ByteArray, X = ⟨(Lib.trimPrefix T.data.toList [45, 32]).toArray⟩ := ⟨_, rfl⟩
  have HX := Lib.hid hX
  rw [← hX]
  clear hX
  have HTR : Hid (Calls Tryd.prog 17 #[.string s, .string ⟨#[32]⟩] (w.alloc (.cells #[.int .i64 0, .string ⟨#[]⟩] 28)) fun e w' => e = .returned (.string T) ∧ w' = w.alloc (.cells #[.int .i64 0, .string ⟨#[]⟩] 28)) := Lib.hid (by rw [HT.out]; exact Tryd.strings_TrimLeft_one s 32 (by decide) _)
  rcases hp : Lib.hasPrefix T.data.toList [45, 32] with _ | _
  · have HCP : Hid (∀ W, Calls Tryd.prog 18 #[.string T, .string ⟨#[45, 32]⟩] W fun e w' => e = .returned (.tuple #[.string X, .bool false]) ∧ w' = W) := Lib.hid (fun W => by
      have h := Tryd.strings_CutPrefix T ⟨#[45, 32]⟩ W
      rw [show (⟨#[45, 32]⟩ : ByteArray).data.toList = [45, 32] from rfl, hp, ← HX.out] at h
      exact h)
    clear hp
    go_enter Tryd.func14, Tryd.ntmps14
    go_wp2_with fail
    refine HTR.out.mono ?_
    rintro e1 w1 ⟨rfl, rfl⟩
    go_wp2_with fail
    refine (HCP.out _).mono ?_
    rintro e2 w2 ⟨rfl, rfl⟩
    go_wp2_with fail
    refine bodyPost_ret (v := .tuple #[.agg #[.int .i64 ((d / 2 : Nat) : Int), .string X], .bool false]) (by simp [results, Tryd.results14, go_sem, HDQ.out]) rfl ⟨rfl, (Below.refl _ _).alloc (Nat.le_refl _) _⟩
  · have HCP : Hid (∀ W, Calls Tryd.prog 18 #[.string T, .string ⟨#[45, 32]⟩] W fun e w' => e = .returned (.tuple #[.string X, .bool true]) ∧ w' = W) := Lib.hid (fun W => by
      have h := Tryd.strings_CutPrefix T ⟨#[45, 32]⟩ W
      rw [show (⟨#[45, 32]⟩ : ByteArray).data.toList = [45, 32] from rfl, hp, ← HX.out] at h
      exact h)
    obtain ⟨b, hb⟩ : ∃ b, b = decide (d % 2 = 0) := ⟨_, rfl⟩
    rw [← hb]
    have q : ((((s.size : Int) - T.size) % 2 : Int) == 0) = b := by
      rw [HDI.out, hb, Bool.eq_iff_iff]
      simp
      omega
    clear hp hb
    go_enter Tryd.func14, Tryd.ntmps14
    go_wp2_with fail
    refine HTR.out.mono ?_
    rintro e1 w1 ⟨rfl, rfl⟩
    go_wp2_with fail
    refine (HCP.out _).mono ?_
    rintro e2 w2 ⟨rfl, rfl⟩
    go_wp2_with fail
    refine bodyPost_ret (v := .tuple #[.agg #[.int .i64 ((d / 2 : Nat) : Int), .string X], .bool (true && b)]) (by simp [results, Tryd.results14, go_sem, HDQ.out]) rfl ⟨rfl, (Below.refl _ _).alloc (Nat.le_refl _) _⟩
end Go.Proofs.YticdapkljbillaaDoor
