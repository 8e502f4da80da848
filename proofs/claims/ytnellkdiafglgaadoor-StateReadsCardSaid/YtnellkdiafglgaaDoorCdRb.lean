/- Cards: numberOf at a number's word; parseState at a state's text. -/
import Derived.Test.YtnellkdiafglgaaDoorCdRa
import Derived.Test.YtnellkdiafglgaaDoorShelfR
import Derived.Test.YtnellkdiafglgaaDoorCdX
import Derived.Lib.AtoiErrMem
namespace Go.Proofs.YtnellkdiafglgaaDoor
open Go.RowKit Go.Shelf Go.Joins

theorem word_size {n : Int} (h0 : -1 ≤ n) (h1 : n ≤ 1000000) : (wordOf n).size ≤ 8 := itoa_len h0 h1
theorem trim_le (s p : List UInt8) : (Lib.trimPrefix s p).length ≤ s.length := by
  unfold Lib.trimPrefix
  split
  · rw [List.length_drop]; omega
  · exact Nat.le_refl _
theorem word_trim {n : Int} (h0 : -1 ≤ n) (h1 : n ≤ 1000000) : (⟨(Lib.trimPrefix (wordOf n).data.toList (⟨#[45]⟩ : ByteArray).data.toList).toArray⟩ : ByteArray).size ≤ 8 := by
  have h := trim_le (wordOf n).data.toList (⟨#[45]⟩ : ByteArray).data.toList
  have h2 := itoa_len h0 h1
  have e : (wordOf n).data.toList = Lib.itoa n := rfl
  rw [e] at h ⊢
  show (Lib.trimPrefix (Lib.itoa n) _).toArray.size ≤ 8
  rw [List.size_toArray]
  omega
set_option maxRecDepth 100000 in
set_option maxHeartbeats 4000000 in
theorem numberOf_any (n : Int) (h0 : -1 ≤ n) (h1 : n ≤ 1000000) (w : World) (hp : Pow w) : Calls Tryd.prog 64 #[.string (wordOf n)] w fun e w' => e = .returned (.tuple #[.int .i64 n, .bool true]) ∧ Below w.heap.size w w' := by
  have HA := Lib.hid (fun W => Tryd.strconv_Atoi (wordOf n) n (by have := word_size h0 h1; omega) (atoi_itoa n) W)
  have HT := Lib.hid (fun W => Tryd.strings_TrimPrefix (wordOf n) ⟨#[45]⟩ W)
  have hT := word_trim h0 h1
  have HI := Lib.hid (fun W hp => itoa_any n h0 h1 W hp)
  have HP := Lib.hid hp
  generalize (⟨(Lib.trimPrefix (wordOf n).data.toList (⟨#[45]⟩ : ByteArray).data.toList).toArray⟩ : ByteArray) = T at *
  generalize wordOf n = S at *
  clear h0 h1 hp
  go_enter Tryd.func64, Tryd.ntmps64
  go_wp2_with fail
  refine (HT.out _).mono ?_
  rintro e1 w1 ⟨rfl, rfl⟩
  go_wp2_with fail
  refine (HA.out _).mono ?_
  rintro e2 w2 ⟨rfl, t, rfl⟩
  have hb2 := Lib.bytesWorld_below w1 5 t
  have HB2 := Lib.hid hb2
  clear hb2
  go_wp2_with fail
  refine (HI.out _ (HP.out.below HB2.out)).mono ?_
  rintro e3 w3 ⟨rfl, hb3⟩
  have HB3 := Lib.hid (HB2.out.trans (hb3.mono HB2.out.size))
  clear hb3
  go_wp2_with fail
  go_ret2
  refine ⟨?_, HB3.out⟩
  first | rfl | (simp only [beq_self_eq_true, decide_true]) | (simp; done)
end Go.Proofs.YtnellkdiafglgaaDoor
