/- TextBack, part 1: what the edits come to. -/
import Derived.Test.YtjfpaahidfhkoaaDoorTxN
import Derived.Test.YtjfpaahidfhkoaaDoorKEdF
import Derived.Test.YtjfpaahidfhkoaaDoorKMarkB
import Derived.WalkKit
import Derived.Lib.Hide
import Derived.Outline
namespace Go.Proofs.YtjfpaahidfhkoaaDoor
open Go.RowKit
open Ke (editErr edited ctl isCtl dF dN comm applyAll composed)
open Km (shM)

def chkErr (s : ByteArray) : Int := if 2000 < s.size then 4 else if ctl s = true then 9 else 0

set_option maxHeartbeats 1000000 in
theorem check_any (s : ByteArray) (w : World) (hs : s.size ≤ 9223372036854775807) :
    Calls Tryd.prog 20 #[.string s] w fun e w' => e = .returned (.int .i64 (chkErr s)) ∧ w' = w := by
  by_cases h1 : 2000 < s.size
  · have hc : chkErr s = 4 := by unfold chkErr; rw [if_pos h1]
    have g : (2000 : Int) < s.size := by omega
    rw [hc]
    clear hc
    go_enter Tryd.func20, Tryd.ntmps20
    go_wp2
    go_ret
    exact ⟨rfl, rfl⟩
  · have g : ¬ (2000 : Int) < s.size := by omega
    by_cases h2 : ctl s = true
    · have hc : chkErr s = 9 := by unfold chkErr; rw [if_neg h1, if_pos h2]
      rw [hc]
      clear hc
      have H2 := Lib.hid h2
      go_enter Tryd.func20, Tryd.ntmps20
      go_wp2_with fail
      refine (Ke.hasControl_any s _ hs).mono ?_
      rintro e w' ⟨rfl, rfl⟩
      rw [H2.out]
      go_wp2
      go_ret
      exact ⟨rfl, rfl⟩
    · have hc : chkErr s = 0 := by unfold chkErr; rw [if_neg h1, if_neg h2]
      rw [hc]
      clear hc
      have h3 : ctl s = false := by simpa using h2
      have H2 := Lib.hid h3
      clear h2 h3
      go_enter Tryd.func20, Tryd.ntmps20
      go_wp2_with fail
      refine (Ke.hasControl_any s _ hs).mono ?_
      rintro e w' ⟨rfl, rfl⟩
      rw [H2.out]
      go_wp2
      go_ret
      exact ⟨rfl, rfl⟩

theorem ext_data (s : ByteArray) (a b : Nat) : (s.extract a b).data.toList = (s.data.toList.take b).drop a := by
  rw [ByteArray.data_extract, Array.toList_extract, List.extract_eq_take_drop, List.drop_take]
theorem app_data (a b : ByteArray) : (a ++ b).data.toList = a.data.toList ++ b.data.toList := by
  rw [ByteArray.data_append, Array.toList_append]
theorem ba_ext {a b : ByteArray} (h : a.data.toList = b.data.toList) : a = b := by
  cases a; cases b; simp at h; subst h; rfl
theorem size_len (s : ByteArray) : s.data.toList.length = s.size := by rw [Array.length_toList]; rfl

theorem ctl_part {s : ByteArray} {f t : Nat} (h : ctl (s.extract f t) = true) : ctl s = true := by
  unfold ctl at h ⊢
  rw [ext_data] at h
  rw [List.any_eq_true] at h ⊢
  obtain ⟨c, hc, h2⟩ := h
  exact ⟨c, List.mem_of_mem_take (List.mem_of_mem_drop hc), h2⟩

theorem back_string (s x : ByteArray) (f t : Nat) (h1 : f ≤ t) (h2 : t ≤ s.size) : edited (edited s f t x) f (f + x.size) (s.extract f t) = s := by
  apply ba_ext
  have hl := size_len s
  have hx := size_len x
  have hS : ((edited s f t x).data.toList) = s.data.toList.take f ++ x.data.toList ++ s.data.toList.drop t := by
    unfold edited
    rw [app_data, app_data, ext_data, ext_data]
    rw [List.drop_zero, List.take_of_length_le (l := s.data.toList) (i := s.size) (by omega)]
  have hsz : (edited s f t x).size = s.size - (t - f) + x.size := Ke.edited_size h1 h2
  have e1 : (edited (edited s f t x) f (f + x.size) (s.extract f t)).data.toList = ((edited s f t x).data.toList.take f) ++ (s.extract f t).data.toList ++ ((edited s f t x).data.toList.drop (f + x.size)) := by
    generalize edited s f t x = y at hS hsz ⊢
    unfold edited
    rw [app_data, app_data, ext_data y, ext_data y]
    have hy := size_len y
    rw [List.drop_zero, List.take_of_length_le (l := y.data.toList) (i := y.size) (by omega)]
  rw [e1, hS, ext_data]
  have hf : (s.data.toList.take f).length = f := by rw [List.length_take]; omega
  rw [List.drop_left' (by rw [List.length_append, hf, hx]), List.append_assoc (List.take f s.data.toList), List.take_left' hf]
  conv => rhs; rw [← List.take_append_drop t s.data.toList, ← List.take_append_drop f (List.take t s.data.toList)]
  rw [List.take_take, Nat.min_eq_left h1]

theorem back_err (s x : ByteArray) (f t : Nat) (h : editErr s.size f t x = 0) :
    editErr (edited s f t x).size f ((f + x.size : Nat) : Int) (s.extract f t) = if ctl (s.extract f t) = true then 9 else if 2000 < s.size then 4 else 0 := by
  obtain ⟨h1, h2, h3, h4, h5⟩ := Ke.editErr_zero h
  have hsz : (edited s f t x).size = s.size - (t - f) + x.size := Ke.edited_size (by omega) (by omega)
  have hxs : (s.extract f t).size = t - f := by rw [ByteArray.size_extract]; omega
  unfold editErr
  rw [if_neg (by omega), hsz, hxs]
  by_cases hc : ctl (s.extract f t) = true
  · rw [if_pos hc, if_pos hc]
  · rw [if_neg hc, if_neg hc]
    by_cases hl : 2000 < s.size
    · rw [if_pos hl, if_pos (by omega)]
    · rw [if_neg hl, if_neg (by omega)]

theorem comm_self : ∀ l : List UInt8, comm l l = l.length
  | [] => by simp [comm]
  | x :: r => by rw [comm, if_pos rfl, comm_self r]; rfl
theorem dF_self (s : ByteArray) : dF s s = s.size := by unfold dF; rw [comm_self, size_len]
theorem dN_self (s : ByteArray) : dN s s = 0 := by
  unfold dN
  rw [dF_self, ← size_len, List.drop_length]
  simp [comm]
theorem composed_back (s x : ByteArray) (f t : Nat) (h : editErr s.size f t x = 0) (h9 : editErr (edited s f t x).size f ((f + x.size : Nat) : Int) (s.extract f t) = 0) :
    composed s [((f : Int), (t : Int), x), ((f : Int), ((f + x.size : Nat) : Int), s.extract f t)] = ((s.size : Int), (s.size : Int), ⟨#[]⟩, 0) := by
  obtain ⟨h1, h2, h3, _, _⟩ := Ke.editErr_zero h
  have ha : applyAll s [((f : Int), (t : Int), x), ((f : Int), ((f + x.size : Nat) : Int), s.extract f t)] = (s, 0) := by
    simp only [applyAll]
    rw [if_pos h]
    simp only [Int.toNat_natCast]
    rw [if_pos h9]
    rw [back_string s x f t (by omega) (by omega)]
  rw [Ke.composed_good (by simp) ha, dF_self, dN_self]
  have he : s.extract s.size (s.size - 0) = ⟨#[]⟩ := by
    apply ba_ext
    rw [ext_data, Nat.sub_zero, List.take_of_length_le (Nat.le_of_eq (size_len s)), List.drop_of_length_le (Nat.le_of_eq (size_len s))]
  rw [he]
  simp

theorem comm_le : ∀ (a b : List UInt8), comm a b ≤ a.length ∧ comm a b ≤ b.length
  | [], _ => by simp [comm]
  | _ :: _, [] => by simp [comm]
  | x :: xs, y :: ys => by
    have := comm_le xs ys
    rw [comm]
    split
    · simp; omega
    · simp
theorem comm_take : ∀ (a b : List UInt8), a.take (comm a b) = b.take (comm a b)
  | [], _ => by simp [comm]
  | _ :: _, [] => by simp [comm]
  | x :: xs, y :: ys => by
    rw [comm]
    split
    · rename_i h; rw [List.take_succ_cons, List.take_succ_cons, h, comm_take xs ys]
    · simp
theorem diff_sizes (a b : ByteArray) : dF a b + dN a b ≤ a.size ∧ dF a b + dN a b ≤ b.size := by
  have h1 := comm_le a.data.toList b.data.toList
  have h2 := comm_le (a.data.toList.drop (dF a b)).reverse (b.data.toList.drop (dF a b)).reverse
  have ha := size_len a
  have hb := size_len b
  simp only [List.length_reverse, List.length_drop] at h2
  have e1 : dF a b = comm a.data.toList b.data.toList := rfl
  have e2 : dN a b = comm (a.data.toList.drop (dF a b)).reverse (b.data.toList.drop (dF a b)).reverse := rfl
  rw [← e1] at h1
  rw [← e2] at h2
  omega
theorem diff_edited (a b : ByteArray) : edited a (dF a b) (a.size - dN a b) (b.extract (dF a b) (b.size - dN a b)) = b := by
  obtain ⟨h1, h2⟩ := diff_sizes a b
  have ha := size_len a
  have hb := size_len b
  apply ba_ext
  unfold edited
  rw [app_data, app_data, ext_data, ext_data, ext_data, List.drop_zero]
  have e1 : a.data.toList.take (dF a b) = b.data.toList.take (dF a b) := comm_take a.data.toList b.data.toList
  have e2 : ((a.data.toList.drop (dF a b)).reverse).take (dN a b) = ((b.data.toList.drop (dF a b)).reverse).take (dN a b) := comm_take _ _
  have e3 : a.data.toList.drop (a.size - dN a b) = b.data.toList.drop (b.size - dN a b) := by
    rw [List.take_reverse, List.take_reverse, List.reverse_inj, List.drop_drop, List.drop_drop, List.length_drop, List.length_drop, ha, hb] at e2
    have x1 : dF a b + (a.size - dF a b - dN a b) = a.size - dN a b := by omega
    have x2 : dF a b + (b.size - dF a b - dN a b) = b.size - dN a b := by omega
    rw [x1, x2] at e2
    exact e2
  rw [List.take_of_length_le (l := a.data.toList) (i := a.size) (by omega), e1, e3]
  have x3 : b.data.toList.take (dF a b) = (b.data.toList.take (b.size - dN a b)).take (dF a b) := by rw [List.take_take, Nat.min_eq_left (by omega)]
  rw [x3, List.take_append_drop, List.take_append_drop]

/-- Where a mark is behind an edit. -/
theorem shM_in (m f t n k : Nat) (h1 : f ≤ t) (h2 : t ≤ n) (h3 : n ≤ 2000) (hm : m = 0 ∨ m = f ∨ m = t ∨ m = n) : 0 ≤ shM m f t k false ∧ shM m f t k false ≤ ((n - (t - f) + k : Nat) : Int) := by
  by_cases h5 : (m : Int) < f
  · rw [Km.shM_id (by omega)]; omega
  · by_cases h6 : (t : Int) < m
    · rw [Km.shM_far (by omega) h6]; omega
    · rw [Km.shM_in (by omega) h6]
      simp
      omega
end Go.Proofs.YtjfpaahidfhkoaaDoor
