/- Cards: numberOf at whatever word. -/
import Derived.Test.YtnellkdiafglgaaDoorCdSa
import Derived.Test.YtnellkdiafglgaaDoorCdRc
import Derived.Test.YtnellkdiafglgaaDoorShelfE
import Derived.Lib.AtoiBound
namespace Go.Proofs.YtnellkdiafglgaaDoor
open Go.RowKit Go.Shelf Go.Joins

/-- strconv.ErrSyntax's cell holds an interface. -/
def ErrV (w : World) : Prop := ∃ ev, w.cell? ⟨4, 0, none⟩ = some ev ∧ (ev = .nilIface ∨ ∃ te pe, ev = .iface te pe)
theorem ErrV.below {w w' : World} (h : ErrV w) (hb : Below w.heap.size w w') : ErrV w' := by
  obtain ⟨ev, he, hk⟩ := h
  exact ⟨ev, (hb.cell (p := ⟨4, 0, none⟩) (World.block_lt_of_cell? w _ he)).trans he, hk⟩
theorem core_le (l : List UInt8) : (coreOf l).length ≤ l.length ∧ l.length ≤ (coreOf l).length + 1 := by
  cases l with
  | nil => simp [core_nil]
  | cons b r =>
    by_cases h : b = 45
    · subst h; rw [core_minus]; simp
    · rw [core_other r h]; simp
theorem itoa_zero : Lib.itoa 0 = [48] := by
  have h := Lib.itoa_nonneg 0
  rw [Int.ofNat_zero] at h
  rw [h, Lib.decDigits]
  rfl
theorem word_eq (n : Int) (s : ByteArray) : wordOf n = s ↔ Lib.itoa n = s.data.toList := by
  constructor
  · intro h; rw [← h]; rfl
  · intro h
    exact ByteArray.ext (by
      rw [← Array.toList_inj]
      exact h)
theorem str_eq (a b : ByteArray) : (a.toList == b.toList) = decide (a = b) := by
  by_cases h : a = b
  · subst h; simp
  · rw [decide_eq_false h, beq_eq_false_iff_ne, ByteArray.toList_eq, ByteArray.toList_eq]
    intro e
    exact h (ByteArray.ext (by rw [← Array.toList_inj]; exact e))
/-- The word is a number, and which. -/
def NumGives (s : ByteArray) (e : Ending) : Prop := ∃ n, e = .returned (.tuple #[.int .i64 n, .bool (wordE s.data.toList).isSome]) ∧ ∀ m, wordE s.data.toList = some m → n = m
set_option maxRecDepth 100000 in
set_option maxHeartbeats 4000000 in
theorem numberOf_full (s : ByteArray) (w : World) (hp : Pow w) (he : ErrV w) : Calls Tryd.prog 64 #[.string s] w fun e w' => NumGives s e ∧ Below w.heap.size w w' := by
  have HT := Lib.hid (fun W => Tryd.strings_TrimPrefix s ⟨#[45]⟩ W)
  have HP := Lib.hid hp
  have HTS : (⟨(Lib.trimPrefix s.data.toList (⟨#[45]⟩ : ByteArray).data.toList).toArray⟩ : ByteArray).size = (coreOf s.data.toList).length := by
    show (Lib.trimPrefix s.data.toList [45]).toArray.size = _
    rw [List.size_toArray]
    rfl
  have hcl := core_le s.data.toList
  have hss : s.size = s.data.toList.length := Lib.size_eq s
  by_cases h9 : (coreOf s.data.toList).length ≤ 9
  case neg =>
    have hw : wordE s.data.toList = none := by unfold wordE; rw [if_neg h9]
    have HG : Hid (NumGives s (.returned (.tuple #[.int .i64 0, .bool false]))) := Lib.hid ⟨0, by rw [hw]; rfl, by rw [hw]; intro m h; cases h⟩
    generalize (⟨(Lib.trimPrefix s.data.toList (⟨#[45]⟩ : ByteArray).data.toList).toArray⟩ : ByteArray) = T at *
    have p0 : (9 : Int) < (T.size : Int) := by omega
    clear hp he hw hcl hss h9 HTS
    go_enter Tryd.func64, Tryd.ntmps64
    go_wp2_with fail
    refine (HT.out _).mono ?_
    rintro e1 w1 ⟨rfl, rfl⟩
    go_wp2_with fail
    go_ret2
    exact ⟨HG.out, Below.refl _ _⟩
  case pos =>
    have h18 : s.size ≤ 18 := by omega
    cases ha : Lib.atoi s.data.toList with
    | some n =>
      have hbd := Lib.atoi_bound ha (by omega)
      have HA := Lib.hid (fun W => Tryd.strconv_Atoi s n h18 ha W)
      have HI := Lib.hid (fun W (hp : Pow W) => Tryd.strconv_Itoa n (by omega) (by omega) W hp)
      have hwo : (⟨(Lib.itoa n).toArray⟩ : ByteArray) = wordOf n := rfl
      rw [hwo] at HI
      have HG : Hid (∀ b : Bool, b = decide (wordOf n = s) → NumGives s (.returned (.tuple #[.int .i64 n, .bool b]))) := Lib.hid (by
        intro b hb
        subst hb
        unfold NumGives wordE
        rw [if_pos h9, ha]
        by_cases hi : Lib.itoa n = s.data.toList
        · have := (word_eq n s).2 hi
          refine ⟨n, ?_, ?_⟩
          · simp only [hi, if_true, this, decide_true]; rfl
          · simp only [hi, if_true]
            intro m hm
            exact Option.some.inj hm
        · have : ¬ wordOf n = s := fun h => hi ((word_eq n s).1 h)
          refine ⟨n, ?_, ?_⟩
          · simp only [hi, if_false, this, decide_false]; rfl
          · simp only [hi, if_false]
            intro m hm
            cases hm)
      generalize (⟨(Lib.trimPrefix s.data.toList (⟨#[45]⟩ : ByteArray).data.toList).toArray⟩ : ByteArray) = T at *
      generalize wordOf n = WD at *
      have p0 : ¬ (9 : Int) < (T.size : Int) := by omega
      clear hp he hcl hss h9 HTS h18 ha hbd hwo
      go_enter Tryd.func64, Tryd.ntmps64
      go_wp2_with fail
      refine (HT.out _).mono ?_
      rintro e1 w1 ⟨rfl, rfl⟩
      go_wp2_with fail
      refine (HA.out _).mono ?_
      rintro e2 w2 ⟨rfl, t, rfl⟩
      have HB2 := Lib.hid (Lib.bytesWorld_below w1 5 t)
      go_wp2_with fail
      refine (HI.out _ (HP.out.below HB2.out)).mono ?_
      rintro e3 w3 ⟨rfl, k, os, hw3⟩
      have HB3 : Hid (Below w1.heap.size w1 w3) := Lib.hid (HB2.out.trans (by rw [hw3]; exact (below_grow _ k os).mono HB2.out.size))
      clear hw3
      go_wp2_with fail
      go_ret2
      refine ⟨HG.out _ ?_, HB3.out⟩
      exact str_eq WD s
    | none =>
      have HA : Hid (∀ W, ErrV W → Calls Tryd.prog 68 #[.string s] W fun e w' => (∃ u, e = .returned (.tuple #[.int .i64 0, u])) ∧ Below W.heap.size W w') := Lib.hid (fun W h => by
        obtain ⟨ev, hv, hk⟩ := h
        refine (Tryd.strconv_Atoi_err s h18 ha ev W hv hk).mono ?_
        rintro e w' ⟨N, rfl, _, _, hb⟩
        exact ⟨⟨_, rfl⟩, hb⟩)
      have HE := Lib.hid he
      have HI := Lib.hid (fun W (hp : Pow W) => Tryd.strconv_Itoa 0 (by omega) (by omega) W hp)
      have hne : ¬ wordOf 0 = s := by
        intro h
        rw [word_eq, itoa_zero] at h
        rw [← h] at ha
        cases ha
      have hw : wordE s.data.toList = none := by unfold wordE; rw [if_pos h9, ha]
      have HG : Hid (NumGives s (.returned (.tuple #[.int .i64 0, .bool false]))) := Lib.hid ⟨0, by rw [hw]; rfl, by rw [hw]; intro m h; cases h⟩
      have hwo : (⟨(Lib.itoa 0).toArray⟩ : ByteArray) = wordOf 0 := rfl
      rw [hwo] at HI
      generalize (⟨(Lib.trimPrefix s.data.toList (⟨#[45]⟩ : ByteArray).data.toList).toArray⟩ : ByteArray) = T at *
      generalize wordOf 0 = WD at *
      have p0 : ¬ (9 : Int) < (T.size : Int) := by omega
      clear hp he hcl hss h9 HTS h18 ha hw hwo
      go_enter Tryd.func64, Tryd.ntmps64
      go_wp2_with fail
      refine (HT.out _).mono ?_
      rintro e1 w1 ⟨rfl, rfl⟩
      go_wp2_with fail
      refine (HA.out _ HE.out).mono ?_
      rintro e2 w2 ⟨⟨u, rfl⟩, hb2⟩
      have HB2 := Lib.hid hb2
      clear hb2
      go_wp2_with fail
      refine (HI.out _ (HP.out.below HB2.out)).mono ?_
      rintro e3 w3 ⟨rfl, k, os, hw3⟩
      have HB3 : Hid (Below w1.heap.size w1 w3) := Lib.hid (HB2.out.trans (by rw [hw3]; exact (below_grow _ k os).mono HB2.out.size))
      clear hw3
      go_wp2_with fail
      go_ret2
      refine ⟨?_, HB3.out⟩
      have hG := HG.out
      have hf : (WD.toList == s.toList) = false := by rw [str_eq, decide_eq_false hne]
      rw [hf]
      exact hG
end Go.Proofs.YtnellkdiafglgaaDoor
