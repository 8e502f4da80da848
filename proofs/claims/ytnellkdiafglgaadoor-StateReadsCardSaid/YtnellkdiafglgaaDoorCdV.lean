/- Cards: a state's numbers as words. -/
import Derived.Test.YtnellkdiafglgaaDoorCdQ
import Derived.Test.YtnellkdiafglgaaDoorShelfJ
import Derived.Lib.ItoaLen
import Derived.Lib.Join
import Derived.Lib.SmallJoins
import Derived.WalkSmall
import Derived.RegionTactic
import Derived.BigRegion
import Derived.Deep.QuietTactic
import Derived.BigQuiet
namespace Go.Proofs.YtnellkdiafglgaaDoor
open Go.RowKit Go.Shelf Go.Joins

def wordOf (n : Int) : ByteArray := ⟨(Lib.itoa n).toArray⟩
def fldL (x : StV) : List Int := [x.bl, x.no, x.st, x.ea, x.du, x.la, x.ti, x.lp, x.bu]
def wordsL (x : StV) : List ByteArray := (fldL x).map wordOf
def textOf (x : StV) : ByteArray := ⟨(Lib.join ((wordsL x).map (·.data.toList)) (⟨#[32]⟩ : ByteArray).data.toList).toArray⟩
def textV (x : StV) : ByteArray := if stE x = 0 then textOf x else ⟨#[]⟩
def strs (l : List ByteArray) : List Value := l.map Value.string
theorem strs_app (a c : List ByteArray) : strs (a ++ c) = strs a ++ strs c := by simp [strs]
theorem fldL_len (x : StV) : (fldL x).length = 9 := rfl
theorem wordsL_len (x : StV) : (wordsL x).length = 9 := rfl
theorem words_take (x : StV) (k : Nat) (h : k < 9) : (wordsL x).take (k + 1) = (wordsL x).take k ++ [wordOf ((fldL x).getD k 0)] := by
  rw [List.take_succ_eq_append_getElem (by rw [wordsL_len]; exact h)]
  congr 2
  unfold wordsL
  rw [List.getElem_map, List.getD_eq_getElem?_getD, List.getElem?_eq_getElem (by rw [fldL_len]; exact h)]
  rfl
theorem fld_bd {x : StV} (h : inRng x) (k : Nat) : -1 ≤ (fldL x).getD k 0 ∧ (fldL x).getD k 0 ≤ 1000000 := by
  unfold inRng at h
  unfold fldL
  match k with
  | 0 => simp; omega
  | 1 => simp; omega
  | 2 => simp; omega
  | 3 => simp; omega
  | 4 => simp; omega
  | 5 => simp; omega
  | 6 => simp; omega
  | 7 => simp; omega
  | 8 => simp; omega
  | k + 9 => simp
theorem fld_cell {w : World} {P : Nat} {x : StV} {t : TypeId} {fr : Nat × Nat} (h : w.heap[P]? = some (.cells x.cells t fr)) (k : Nat) (hk : k < 9) : w.cell? ⟨P, k, none⟩ = some (.int .i64 ((fldL x).getD k 0)) := by
  rw [cell_of_row w P k _ _ fr h]
  rcases (by omega : k = 0 ∨ k = 1 ∨ k = 2 ∨ k = 3 ∨ k = 4 ∨ k = 5 ∨ k = 6 ∨ k = 7 ∨ k = 8) with rfl | rfl | rfl | rfl | rfl | rfl | rfl | rfl | rfl <;> rfl
theorem below_grow (w : World) (k : Nat) (os : Array Obj) : Below w.heap.size w (Sort.grow (w.drewN k) os) :=
  ⟨rfl, rfl, rfl, by simp, fun b hb => by rw [Sort.heap_grow_old _ _ (by simpa using hb)]; rfl⟩
/-- The table of the powers of ten lies where it was laid. -/
def Pow (w : World) : Prop := Lib.TabIs Tryd.prog w "internal/strconv.uint64pow10" .u64 Lib.pow10Tab
theorem Pow.below {w w' : World} (h : Pow w) (hb : Below w.heap.size w w') : Pow w' := tab_stays (g := 2) (by kernel_rfl) h hb (Nat.le_refl _)
theorem itoa_any (n : Int) (h0 : -1 ≤ n) (h1 : n ≤ 1000000) (w : World) (hp : Pow w) : Calls Tryd.prog 35 #[.int .i64 n] w fun e w' => e = .returned (.string (wordOf n)) ∧ Below w.heap.size w w' := by
  refine (Tryd.strconv_Itoa n (by omega) (by omega) w hp).mono ?_
  rintro e w' ⟨rfl, k, os, hw⟩
  exact ⟨rfl, by rw [hw]; exact below_grow w k os⟩
theorem text_len {x : StV} (h : inRng x) : (Lib.join ((wordsL x).map (·.data.toList)) (⟨#[32]⟩ : ByteArray).data.toList).length ≤ 1000 := by
  have hb : ∀ k, (Lib.itoa ((fldL x).getD k 0)).length ≤ 21 := fun k => Lib.itoa_length_le _ (by have := fld_bd h k; omega) (by have := fld_bd h k; omega)
  have h0 := hb 0
  have h1 := hb 1
  have h2 := hb 2
  have h3 := hb 3
  have h4 := hb 4
  have h5 := hb 5
  have h6 := hb 6
  have h7 := hb 7
  have h8 := hb 8
  simp only [fldL, List.getD_cons_zero, List.getD_cons_succ] at h0 h1 h2 h3 h4 h5 h6 h7 h8
  unfold wordsL fldL wordOf
  simp only [List.map_cons, List.map_nil]
  rw [Lib.join_length]
  simp [Lib.lens]
  omega
set_option maxRecDepth 100000 in
set_option maxHeartbeats 4000000 in
theorem fieldsOf_any (P : Nat) (w : World) (hP : P < w.heap.size) : Calls Tryd.prog 34 #[.pointer (some ⟨P, 0, none⟩)] w fun e w' => e = .returned (.agg #[.pointer (some ⟨P, 0, none⟩), .pointer (some ⟨P, 1, none⟩), .pointer (some ⟨P, 2, none⟩), .pointer (some ⟨P, 3, none⟩), .pointer (some ⟨P, 4, none⟩), .pointer (some ⟨P, 5, none⟩), .pointer (some ⟨P, 6, none⟩), .pointer (some ⟨P, 7, none⟩), .pointer (some ⟨P, 8, none⟩)]) ∧ Below w.heap.size w w' := by
  go_enter Tryd.func34, Tryd.ntmps34
  go_wp2_with fail
  go_region
  go_wp2_with fail
  refine bodyPost_ret (v := .agg #[.pointer (some ⟨P, 0, none⟩), .pointer (some ⟨P, 1, none⟩), .pointer (some ⟨P, 2, none⟩), .pointer (some ⟨P, 3, none⟩), .pointer (some ⟨P, 4, none⟩), .pointer (some ⟨P, 5, none⟩), .pointer (some ⟨P, 6, none⟩), .pointer (some ⟨P, 7, none⟩), .pointer (some ⟨P, 8, none⟩)]) ?_ rfl ⟨rfl, ((Below.refl _ _).alloc (Nat.le_refl _) _).drew⟩
  simp only [results, Tryd.results34]
  go_simp
/-- A slice of nine pointers to the fields. -/
def PtrsAt (w : World) (B P : Nat) (v : Value) (w' : World) : Prop := ∃ g, v = .slice (some ⟨g, 0, none⟩) 9 9 ∧ B ≤ g ∧ (∀ k, k < 9 → w'.cell? ⟨g, 0 + k, none⟩ = some (.pointer (some ⟨P, k, none⟩))) ∧ Below w.heap.size w w'
set_option maxRecDepth 100000 in
set_option maxHeartbeats 4000000 in
theorem numbersOf_any (P : Nat) (w : World) (hP : P < w.heap.size) : Calls Tryd.prog 37 #[.pointer (some ⟨P, 0, none⟩)] w fun e w' => ∃ v, e = .returned v ∧ PtrsAt w w.heap.size P v w' := by
  go_enter Tryd.func37, Tryd.ntmps37
  go_wp2_with fail
  go_region
  go_wp2_with fail
  go_ret
  refine ⟨_, rfl, w.heap.size, rfl, Nat.le_refl _, ?_, ?_⟩
  · intro k hk
    rw [Nat.zero_add]
    rcases (by omega : k = 0 ∨ k = 1 ∨ k = 2 ∨ k = 3 ∨ k = 4 ∨ k = 5 ∨ k = 6 ∨ k = 7 ∨ k = 8) with rfl | rfl | rfl | rfl | rfl | rfl | rfl | rfl | rfl <;> exact cell_of_row _ _ _ _ _ (0, 0) (heap_alloc_new w _)
  · exact ((Below.refl _ _).alloc (Nat.le_refl _) _).drew
end Go.Proofs.YtnellkdiafglgaaDoor
