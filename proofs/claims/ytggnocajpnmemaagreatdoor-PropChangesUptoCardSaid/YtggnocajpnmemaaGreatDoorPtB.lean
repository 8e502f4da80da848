/- Properties: the reference's IsName. -/
import Derived.Test.YtggnocajpnmemaaGreatDoorPtA
import Derived.WalkKit
import Derived.Lib.Hide
import Derived.Outline
import Derived.Below
import Derived.Deep.QuietTactic
import Derived.BigQuiet
namespace Go.Proofs.YtggnocajpnmemaaGreatDoor
open Go.RowKit Go.Shelf

theorem zeroSet (w : World) : (zeroValue 148).run Tryz.prog w = .ok (.agg (Array.replicate 256 (.bool false))) w := by kernel_rfl
theorem trim_any (s : ByteArray) (cs : ByteArray) (w : World) (hs : s.size ≤ 9223372036854775807) (hcs : cs.size < 4294967281) (ha : ∀ (j : Nat) b, cs.data.toList[j]? = some b → b.toNat < 128) :
    Calls Tryz.prog 32 #[.string s, .string cs] w (Quiet w (.string ⟨(Lib.trimS s.data.toList cs.data.toList).toArray⟩)) :=
  Any.strings_Trim_ascii Tryz.lays160 zeroSet (by kernel_rfl) s cs w hs hcs ha

theorem letter_int (c : UInt8) : pLetter c = (decide ((97 : Int) ≤ c.toNat) && decide ((c.toNat : Int) ≤ 122)) := by
  unfold pLetter; rw [Bool.decide_and]
set_option maxRecDepth 100000 in
set_option maxHeartbeats 4000000 in
theorem isName_any (s : ByteArray) (w : World) (hs : s.size ≤ 9223372036854775807) :
    Calls Tryz.prog 14 #[.string s] w (Quiet w (.bool (nameOk s))) := by
  by_cases h0 : 1 ≤ s.size ∧ s.size ≤ 20
  · have p0 : (1 : Int) ≤ s.size := by omega
    have p1 : (s.size : Int) ≤ 20 := by omega
    have p3 : (0 : Int) < s.size := by omega
    have hpos : 0 < s.size := by omega
    by_cases hl : pLetter s[0] = true
    · have hl2 : 97 ≤ (s[0].toNat : Int) ∧ (s[0].toNat : Int) ≤ 122 := of_decide_eq_true hl
      obtain ⟨q1, q2⟩ := hl2
      obtain ⟨T, hT⟩ : ∃ T : ByteArray, T = ⟨(Lib.trimS s.data.toList nameSet.data.toList).toArray⟩ := ⟨_, rfl⟩
      have HT : Hid (Calls Tryz.prog 32 #[.string s, .string nameSet] w (Quiet w (.string T))) := Lib.hid (by rw [hT]; exact trim_any s nameSet w hs (by decide) (by
        intro j b hb
        have hm := List.mem_of_getElem? hb
        have h : ∀ b ∈ nameSet.data.toList, b.toNat < 128 := by decide
        exact h b hm))
      have hok : nameOk s = T.toList.isEmpty := by
        unfold nameOk
        rw [decide_eq_true h0, head_at hpos, hl, Bool.true_and, Bool.true_and, ← trim_nil, ByteArray.toList_eq, hT]
      unfold nameSet at HT
      rw [hok]
      rcases he : T.toList.isEmpty with _ | _
      · have z1 : ¬ T.toList = [] := fun e => by rw [e] at he; cases he
        clear hT hok hl h0
        go_enter Tryz.func14, Tryz.ntmps14
        go_wp2_with fail
        refine HT.out.mono ?_
        rintro e1 w1 ⟨rfl, hb⟩
        have HB := Lib.hid hb
        clear hb
        go_wp2_with fail
        go_ret
        exact ⟨rfl, HB.out⟩
      · have z1 : T.toList = [] := List.isEmpty_iff.1 he
        clear hT hok hl h0
        go_enter Tryz.func14, Tryz.ntmps14
        go_wp2_with fail
        refine HT.out.mono ?_
        rintro e1 w1 ⟨rfl, hb⟩
        have HB := Lib.hid hb
        clear hb
        go_wp2_with fail
        go_ret
        exact ⟨rfl, HB.out⟩
    · have hl' : pLetter s[0] = false := by simpa using hl
      have HE : Hid (nameOk s = false) := Lib.hid (nameOk_head hpos hl')
      have hl2 : ¬ (97 ≤ (s[0].toNat : Int) ∧ (s[0].toNat : Int) ≤ 122) := of_decide_eq_false hl'
      clear hl hl'
      by_cases q1 : 97 ≤ (s[0].toNat : Int)
      · have q2 : ¬ (s[0].toNat : Int) ≤ 122 := fun h => hl2 ⟨q1, h⟩
        clear hl2
        go_enter Tryz.func14, Tryz.ntmps14
        go_wp2_with fail
        go_ret
        exact ⟨ret_bool HE.out.symm, Below.refl _ _⟩
      · clear hl2
        go_enter Tryz.func14, Tryz.ntmps14
        go_wp2_with fail
        go_ret
        exact ⟨ret_bool HE.out.symm, Below.refl _ _⟩
  · have HE : Hid (nameOk s = false) := Lib.hid (nameOk_size h0)
    by_cases p0 : (1 : Int) ≤ s.size
    · have p1 : ¬ (s.size : Int) ≤ 20 := by omega
      clear h0
      go_enter Tryz.func14, Tryz.ntmps14
      go_wp2_with fail
      go_ret
      exact ⟨ret_bool HE.out.symm, Below.refl _ _⟩
    · clear h0
      go_enter Tryz.func14, Tryz.ntmps14
      go_wp2_with fail
      go_ret
      exact ⟨ret_bool HE.out.symm, Below.refl _ _⟩
end Go.Proofs.YtggnocajpnmemaaGreatDoor
