/- Outlines: the reference's lines, and its OutlineRead. -/
import Derived.Test.YticdapkljbillaaDoorOlD
import Derived.WalkKit
import Derived.Lib.Hide
import Derived.Outline
import Derived.Below
import Derived.Deep.DeepCutAuto
import Derived.Deep.CutBlock
import Derived.Deep.LoopGhost
import Derived.Deep.QuietTactic
import Derived.BigQuiet
import Derived.BigRegion
import Derived.Lib.SmallJoins
namespace Go.Proofs.YticdapkljbillaaDoor
open Go.RowKit Go.Shelf

theorem genSplit_any (s : ByteArray) (w : World) (hs : s.size ≤ 400000) :
    Calls Tryd.prog 56 #[.string s, .string ⟨#[10]⟩, .int .i64 0, .int .i64 (-1)] w fun e w' =>
      e = .returned (.slice (some ⟨w.heap.size, 0, none⟩) (Lib.countB s ⟨#[10]⟩ + 1) (Lib.countB s ⟨#[10]⟩ + 1)) ∧ w' = w.alloc (.cells ((Lib.splitB ⟨#[10]⟩ 0 (Lib.countB s ⟨#[10]⟩) s).map Value.string).toArray 9) := by
  have hle := Lib.countB_le ⟨#[10]⟩ (by decide) s.size s (Nat.le_refl _)
  have hlen := Lib.splitB_all ⟨#[10]⟩ (by decide) 0 _ s rfl
  have hC : Calls Tryd.prog 76 #[.string s, .string ⟨#[10]⟩] w fun e w' => e = .returned (.int .i64 (Lib.countB s ⟨#[10]⟩)) ∧ w' = w := by
    refine (Tryd.strings_Count_one s 10 w).mono fun e w' ⟨he, hw⟩ => ⟨?_, hw⟩
    rw [he]
    show _ = Ending.returned (Value.int .i64 ((Lib.count s.data.toList [10] : Nat) : Int))
    rw [Lib.count_one]
    rfl
  have hI : ∀ (x : ByteArray) (c : Array Value), x.size ≤ s.size → Calls Tryd.prog 77 #[.string x, .string ⟨#[10]⟩] (w.alloc (.cells c 9)) fun e w' => e = .returned (.int .i64 (Lib.indexB x ⟨#[10]⟩)) ∧ w' = w.alloc (.cells c 9) := by
    intro x c _
    refine (Tryd.strings_Index_one x 10 _).mono fun e w' ⟨he, hw⟩ => ⟨?_, hw⟩
    rw [he, ← Lib.index_one]
  have c := Any.strings_genSplit_core Tryd.lays221 (by kernel_rfl) s ⟨#[10]⟩ 0 (-1) (Lib.countB s ⟨#[10]⟩ + 1) w (by omega) (by decide) (by decide) hI hC (by decide) (by decide) (by rw [if_pos (by decide)]; omega)
  rw [Nat.add_sub_cancel, hlen] at c
  have e2 : Lib.cellsOf (Lib.splitB ⟨#[10]⟩ 0 (Lib.countB s ⟨#[10]⟩) s) (Lib.countB s ⟨#[10]⟩ + 1) = ((Lib.splitB ⟨#[10]⟩ 0 (Lib.countB s ⟨#[10]⟩) s).map Value.string).toArray := by rw [← hlen]; exact Lib.cellsOf_full _
  rw [e2] at c
  exact c

def strs (l : List ByteArray) : List Value := l.map Value.string
theorem strs_len (l : List ByteArray) : (strs l).length = l.length := by simp [strs]
/-- What strings.Split gives: a row of strings. -/
def GivesStrs (L : List ByteArray) (w : World) (e : Ending) (w' : World) : Prop :=
  ∃ v, e = .returned v ∧ w'.ownsRow w.heap.size 9 1 v L.length (strs L) ∧ Below w.heap.size w w'

set_option maxHeartbeats 1000000 in
theorem split_any (s : ByteArray) (w : World) (hs : s.size ≤ 400000) :
    Calls Tryd.prog 34 #[.string s, .string ⟨#[10]⟩] w (GivesStrs (Lib.splitB ⟨#[10]⟩ 0 (Lib.countB s ⟨#[10]⟩) s) w) := by
  have hle := Lib.countB_le ⟨#[10]⟩ (by decide) s.size s (Nat.le_refl _)
  have hlen := Lib.splitB_all ⟨#[10]⟩ (by decide) 0 _ s rfl
  have HC := Lib.hid (genSplit_any s w hs)
  obtain ⟨L, hL⟩ : ∃ L, L = Lib.splitB ⟨#[10]⟩ 0 (Lib.countB s ⟨#[10]⟩) s := ⟨_, rfl⟩
  obtain ⟨n, hn⟩ : ∃ n, n = Lib.countB s ⟨#[10]⟩ := ⟨_, rfl⟩
  rw [← hL, ← hn] at HC
  rw [← hL]
  rw [← hL, ← hn] at hlen
  rw [← hn] at hle
  have hn2 : n + 1 ≤ maxLen := by unfold maxLen; omega
  have HE := Lib.hid hlen
  clear hL hn hlen
  go_enter Tryd.func34, Tryd.ntmps34
  go_wp2_with fail
  refine HC.out.mono ?_
  rintro e1 w1 ⟨rfl, rfl⟩
  have hown := World.ownsRow_lit (base := w.heap.size) (e := 9) (size := 1) w (L.map Value.string).toArray (n + 1) (Nat.le_refl _) hn2 (by simp [HE.out])
  have HG : Hid (GivesStrs L w (.returned (.slice (some ⟨w.heap.size, 0, none⟩) (n + 1) (n + 1))) (w.alloc (.cells (L.map Value.string).toArray 9))) := Lib.hid ⟨_, rfl, by rw [HE.out]; exact hown, (Below.refl _ _).alloc (Nat.le_refl _) _⟩
  clear hown
  go_wp2
  go_ret
  exact HG.out

/-- The lines as strings. -/
def lineSs (s : ByteArray) : List ByteArray := (linesL s.data.toList).1.map fun l => ⟨l.toArray⟩
theorem lineSs_len (s : ByteArray) : (lineSs s).length = nLn s := by simp [lineSs, nLn]
theorem lineSs_at {s : ByteArray} {j : Nat} (h : j < nLn s) : ∃ x, (lineSs s)[j]? = some x ∧ x.data.toList = (linesL s.data.toList).1[j]'h ∧ x.size ≤ s.size := by
  have h2 : j < (linesL s.data.toList).1.length := h
  refine ⟨⟨((linesL s.data.toList).1[j]'h).toArray⟩, ?_, rfl, ?_⟩
  · unfold lineSs
    rw [List.getElem?_map, List.getElem?_eq_getElem h2]
    rfl
  · have := lines_piece s.data.toList _ (List.getElem_mem h2)
    rw [sizeL s, sizeL]
    exact this
/-- What linesOf gives. -/
def GivesLines (s : ByteArray) (w : World) (e : Ending) (w' : World) : Prop :=
  (∃ v, e = .returned (.tuple #[v, .bool true]) ∧ (linesL s.data.toList).2 = [] ∧ w'.ownsRow w.heap.size 9 1 v (nLn s) (strs (lineSs s)) ∧ Below w.heap.size w w') ∨
  (e = .returned (.tuple #[.slice none 0 0, .bool false]) ∧ synOk s = false ∧ Below w.heap.size w w')
theorem nLn_at {s : ByteArray} (h : 0 < s.size) (h2 : Lib.hasSuffix s.data.toList [10] = true) :
    (Lib.splitB ⟨#[10]⟩ 0 (Lib.countB (s.extract 0 (s.size - 1)) ⟨#[10]⟩) (s.extract 0 (s.size - 1))) = lineSs s ∧ (linesL s.data.toList).2 = [] := by
  obtain ⟨t, ht⟩ : ([10] : List UInt8) <:+ s.data.toList := List.isSuffixOf_iff_suffix.1 h2
  have e1 : (s.extract 0 (s.size - 1)).data.toList = t := by
    rw [extract_L, sizeL, ← ht]
    simp
  have hp := pieces_ten (s.extract 0 (s.size - 1))
  have hl := lines_end t
  rw [e1] at hp
  rw [ht] at hl
  refine ⟨?_, by rw [hl]⟩
  unfold lineSs
  rw [hl]
  show _ = ((linesL t).1 ++ [(linesL t).2]).map _
  rw [← hp, List.map_map]
  conv => lhs; rw [← List.map_id (Lib.splitB _ _ _ _)]
  apply List.map_congr_left
  intro x _
  rfl
theorem nLn_no {s : ByteArray} (h : 0 < s.size) (h2 : Lib.hasSuffix s.data.toList [10] = false) : synOk s = false := by
  have hne : s.data.toList ≠ [] := fun e => by rw [sizeL, e] at h; exact absurd h (by decide)
  have hl := lines_open s.data.toList hne (fun e => by
    obtain ⟨t, ht⟩ := List.getLast?_eq_some_iff.1 e
    have : Lib.hasSuffix s.data.toList [10] = true := List.isSuffixOf_iff_suffix.2 ⟨t, ht.symm⟩
    rw [this] at h2; cases h2)
  unfold synOk
  cases h3 : (linesL s.data.toList).2 with
  | nil => exact absurd h3 hl
  | cons c l => simp

set_option maxHeartbeats 2000000 in
theorem linesOf_any (s : ByteArray) (w : World) (hs : s.size ≤ 400000) : Calls Tryd.prog 16 #[.string s] w (GivesLines s w) := by
  by_cases h0 : s.size = 0
  · have e : s.data.toList = [] := List.eq_nil_of_length_eq_zero (by rw [← sizeL]; exact h0)
    have z1 : s.toList = [] := by rw [ByteArray.toList_eq]; exact e
    have z2 : s.toList.isEmpty = true := by rw [z1]; rfl
    have HG : Hid (GivesLines s w (.returned (.tuple #[.slice none 0 0, .bool true])) w) := Lib.hid (.inl ⟨_, rfl, by rw [e]; rfl, by
      rw [show nLn s = 0 by unfold nLn; rw [e]; rfl, show lineSs s = [] by unfold lineSs; rw [e]; rfl]
      exact World.ownsRow_nil _ _ _ _, Below.refl _ _⟩)
    clear h0 e
    go_enter Tryd.func16, Tryd.ntmps16
    go_wp2
    go_ret2
    exact HG.out
  · have z1 : ¬ s.toList = [] := by
      rw [ByteArray.toList_eq]; intro e; have h1 := congrArg List.length e; rw [← sizeL] at h1; exact h0 h1
    have z2 : s.toList.isEmpty = false := by
      cases he : s.toList.isEmpty with
      | false => rfl
      | true => exact absurd (List.isEmpty_iff.1 he) z1
    have HS : Hid (Calls Tryd.prog 33 #[.string s, .string ⟨#[10]⟩] w fun e w' => e = .returned (.bool (Lib.hasSuffix s.data.toList [10])) ∧ w' = w) := Lib.hid (Tryd.strings_HasSuffix s ⟨#[10]⟩ w (by omega))
    rcases h2 : Lib.hasSuffix s.data.toList [10] with _ | _
    · have HG : Hid (GivesLines s w (.returned (.tuple #[.slice none 0 0, .bool false])) w) := Lib.hid (.inr ⟨rfl, nLn_no (by omega) h2, Below.refl _ _⟩)
      rw [h2] at HS
      clear h2 h0
      go_enter Tryd.func16, Tryd.ntmps16
      go_wp2_with fail
      refine HS.out.mono ?_
      rintro e1 w1 ⟨rfl, rfl⟩
      go_wp2_with fail
      go_ret2
      exact HG.out
    · obtain ⟨f1, f2⟩ := nLn_at (by omega) h2
      have HT : Hid (∀ W, Calls Tryd.prog 34 #[.string (s.extract 0 (s.size - 1)), .string ⟨#[10]⟩] W (GivesStrs (lineSs s) W)) := Lib.hid (fun W => by
        rw [← f1]; exact split_any _ W (by rw [ByteArray.size_extract]; omega))
      have HF := Lib.hid f2
      rw [h2] at HS
      have hpos : 1 ≤ s.size := by omega
      have c1 : (1 : Int) ≤ s.size := by omega
      have c2 : (0 : Int) ≤ (s.size : Int) - 1 := by omega
      have c3 : ((s.size : Int) - 1).toNat = s.size - 1 := by omega
      clear h2 h0 f1 f2
      go_enter Tryd.func16, Tryd.ntmps16
      go_wp2_with fail
      refine HS.out.mono ?_
      rintro e1 w1 ⟨rfl, rfl⟩
      go_wp2_with fail
      refine (HT.out _).mono ?_
      rintro e2 w2 ⟨v, rfl, hown, hb⟩
      rw [lineSs_len] at hown
      obtain ⟨A, c, rfl, -⟩ := own_slice hown
      have HO := Lib.hid hown
      have HB := Lib.hid hb
      clear hown hb
      go_wp2_with fail
      go_ret2
      exact .inl ⟨_, rfl, HF.out, HO.out, HB.out⟩
end Go.Proofs.YticdapkljbillaaDoor
