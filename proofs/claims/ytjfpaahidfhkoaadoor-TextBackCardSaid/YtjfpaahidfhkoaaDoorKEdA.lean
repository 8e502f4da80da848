/- TextEdits, part 1: control bytes. -/
import Derived.Test.YtjfpaahidfhkoaaDoorRows
import Derived.WalkKit
import Derived.Lib.Hide
import Derived.Shelf.Abstract
import Derived.KernelRfl
namespace Go.Proofs.YtjfpaahidfhkoaaDoor.Ke
open Go.RowKit

theorem ret_int {k : IntKind} {a b : Int} (h : a = b) : Ending.returned (.int k a) = .returned (.int k b) := by rw [h]
theorem ret_bool {a b : Bool} (h : a = b) : Ending.returned (.bool a) = .returned (.bool b) := by rw [h]

/-- A byte that cannot be in a text. -/
def isCtl (c : UInt8) : Bool := decide ((c.toNat : Int) < 32 ∨ (c.toNat : Int) = 127)
def ctl (s : ByteArray) : Bool := s.data.toList.any isCtl

theorem isCtl_yes {c : UInt8} (h : (c.toNat : Int) < 32 ∨ (c.toNat : Int) = 127) : isCtl c = true := decide_eq_true h
theorem isCtl_no {c : UInt8} (h : ¬ ((c.toNat : Int) < 32 ∨ (c.toNat : Int) = 127)) : isCtl c = false := decide_eq_false h
theorem ctl_true {s : ByteArray} {k : Nat} (hk : k < s.size) (h : isCtl s[k] = true) : ctl s = true := by
  unfold ctl
  rw [List.any_eq_true]
  exact ⟨s[k], by simp [ByteArray.getElem_eq_getElem_data], h⟩
theorem ctl_false {s : ByteArray} (h : ∀ j (hj : j < s.size), isCtl s[j] = false) : ctl s = false := by
  unfold ctl
  rw [List.any_eq_false]
  intro c hc
  obtain ⟨j, hj, rfl⟩ := List.getElem_of_mem hc
  have hj' : j < s.size := by simpa using hj
  have := h j hj'
  rw [ByteArray.getElem_eq_getElem_data] at this
  simpa using this

set_option maxHeartbeats 400000 in
theorem isNoControl_any (c : UInt8) (w : World) :
    Calls Tryd.prog 53 #[.int .u8 c.toNat] w fun e w' => e = .returned (.bool (!isCtl c)) ∧ w' = w := by
  by_cases h1 : (c.toNat : Int) < 32
  · have HB := Lib.hid (isCtl_yes (.inl h1))
    go_enter Tryd.func53, Tryd.ntmps53
    go_wp2
    go_ret
    exact ⟨ret_bool (by rw [HB.out]; rfl), rfl⟩
  · by_cases h2 : (c.toNat : Int) = 127
    · have HB := Lib.hid (isCtl_yes (.inr h2))
      have h3 : ((c.toNat : Int) != 127) = false := by simpa using h2
      clear h2
      go_enter Tryd.func53, Tryd.ntmps53
      go_wp2
      go_ret
      exact ⟨ret_bool (by rw [HB.out]; rfl), rfl⟩
    · have HB := Lib.hid (isCtl_no (c := c) (by omega))
      have h3 : ((c.toNat : Int) != 127) = true := by simpa using h2
      clear h2
      go_enter Tryd.func53, Tryd.ntmps53
      go_wp2
      go_ret
      exact ⟨ret_bool (by rw [HB.out]; rfl), rfl⟩

def isLong (k m : Int) : Bool := decide (2000 < k ∨ 2000 - k < m)
theorem isLong_yes {k m : Int} (h : 2000 < k ∨ 2000 - k < m) : isLong k m = true := decide_eq_true h
theorem isLong_no {k m : Int} (h : ¬ (2000 < k ∨ 2000 - k < m)) : isLong k m = false := decide_eq_false h

set_option maxHeartbeats 400000 in
theorem tooLong_any (k m : Int) (w : World) (h0 : -4611686018427387904 ≤ k) :
    Calls Tryd.prog 42 #[.int .i64 k, .int .i64 m] w fun e w' => e = .returned (.bool (isLong k m)) ∧ w' = w := by
  by_cases h2 : 2000 < k
  · have HB := Lib.hid (isLong_yes (m := m) (.inl h2))
    go_enter Tryd.func42, Tryd.ntmps42
    go_wp2
    go_ret
    exact ⟨ret_bool HB.out.symm, rfl⟩
  · by_cases h3 : 2000 - k < m
    · have HB := Lib.hid (isLong_yes (m := m) (.inr h3))
      go_enter Tryd.func42, Tryd.ntmps42
      go_wp2
      go_ret
      exact ⟨ret_bool HB.out.symm, rfl⟩
    · have HB := Lib.hid (isLong_no (k := k) (m := m) (by omega))
      have h4 : decide (2000 - k < m) = false := by simpa using h3
      go_enter Tryd.func42, Tryd.ntmps42
      go_wp2
      go_ret
      exact ⟨ret_bool HB.out.symm, rfl⟩

/-- Where a run of bytes of a class ends. -/
def runTo (cls : UInt8 → Bool) (s : ByteArray) (from_ : Nat) : Nat := from_ + ((s.data.toList.drop from_).takeWhile cls).length

theorem takeWhile_len {cls : UInt8 → Bool} {l : List UInt8} {n : Nat} (h : ∀ j (hj : j < l.length), j < n → cls l[j] = true) (hn : n ≤ l.length) (he : ∀ (hj : n < l.length), cls l[n] = false) : (l.takeWhile cls).length = n := by
  induction l generalizing n with
  | nil => simp at hn; subst hn; rfl
  | cons c r ih =>
    cases n with
    | zero =>
      have := he (by simp)
      simp at this
      simp [List.takeWhile_cons, this]
    | succ n =>
      have h0 := h 0 (by simp) (by omega)
      simp at h0
      rw [List.takeWhile_cons, if_pos h0, List.length_cons]
      have h1 : ∀ j (hj : j < r.length), j < n → cls r[j] = true := fun j hj hjn => by
        have := h (j + 1) (by simp; omega) (by omega)
        simpa using this
      have h2 : ∀ (hj : n < r.length), cls r[n] = false := fun hj => by
        have := he (by simp; omega)
        simpa using this
      rw [ih h1 (by simp at hn; omega) h2]

theorem runTo_is {cls : UInt8 → Bool} {s : ByteArray} {a k : Nat} (hak : a ≤ k) (hk : k ≤ s.size) (h : ∀ j (hj : j < s.size), a ≤ j → j < k → cls s[j] = true) (he : ∀ (hj : k < s.size), cls s[k] = false) : runTo cls s a = k := by
  have hz : s.data.toList.length = s.size := by simp
  unfold runTo
  rw [takeWhile_len (n := k - a)]
  · omega
  · intro j hj hjk
    rw [List.getElem_drop]
    have := h (a + j) (by rw [List.length_drop] at hj; omega) (by omega) (by omega)
    rw [ByteArray.getElem_eq_getElem_data] at this
    simpa using this
  · rw [List.length_drop]; omega
  · intro hj
    rw [List.length_drop] at hj
    rw [List.getElem_drop]
    have := he (by omega)
    rw [ByteArray.getElem_eq_getElem_data] at this
    have e : a + (k - a) = k := by omega
    simpa [e] using this

/-- A function of one byte that says of which class it is. -/
structure ClassFn (K : Nat) (cls : UInt8 → Bool) : Prop where
  enter : ∀ (xs : Array Value) (W : World), (callFunc K xs).run Tryd.prog W = .ok (.enter K xs) W
  calls : ∀ (c : UInt8) (W : World), Calls Tryd.prog K #[.int .u8 c.toNat] W fun e w' => e = .returned (.bool (cls c)) ∧ w' = W

theorem isNoControl_class : ClassFn 53 (fun c => !isCtl c) := ⟨enters_of Tryd.func53 (by kernel_rfl) rfl, fun c W => isNoControl_any c W⟩

set_option maxHeartbeats 1000000 in
/-- The end of a run of bytes that a function is true of. -/
theorem runEnd_any {K : Nat} {cls : UInt8 → Bool} (hK : ClassFn K cls) (s : ByteArray) (a : Int) (w : World) (hs : s.size ≤ 9223372036854775807) (h0 : 0 ≤ a) (ha : a ≤ s.size) :
    Calls Tryd.prog 52 #[.string s, .int .i64 a, .func (Fn.func K) #[] #[]] w fun e w' => e = .returned (.int .i64 (runTo cls s a.toNat)) ∧ w' = w := by
  obtain ⟨a, rfl⟩ := Int.eq_ofNat_of_zero_le h0
  have hen := hK.enter
  have HC := Lib.hid hK.calls
  go_enter Tryd.func52, Tryd.ntmps52
  go_wp2
  go_loop [1] (fun i => ∃ k : Nat, a ≤ k ∧ k ≤ s.size ∧ i = .int .i64 k ∧ Hid (∀ j (hj : j < s.size), a ≤ j → j < k → cls s[j] = true)) (fun i => s.size - (intOf i).toNat)
  case atStart => exact ⟨a, Nat.le_refl _, by omega, rfl, fun j _ _ hj => by omega⟩
  case round =>
    obtain ⟨k, hak, hk, rfl, hall⟩ := hrel
    by_cases hlt : k < s.size
    · by_cases hc : cls s[k] = true
      · have HB := Lib.hid hc
        clear hc
        go_wp2_with fail
        refine (HC.out s[k] w).mono ?_
        rintro e w' ⟨rfl, rfl⟩
        rw [HB.out]
        go_wp2
        go_round
        case rel => exact ⟨k + 1, by omega, by omega, by go_num, fun j hj h1 h2 => by
          rcases Nat.lt_succ_iff_lt_or_eq.1 h2 with h | rfl
          · exact hall.out j hj h1 h
          · exact HB.out⟩
        case measure => simp [intOf]; omega
      · have hb : cls s[k] = false := by simpa using hc
        have HB := Lib.hid hb
        have HR := Lib.hid (runTo_is (s := s) hak hk hall.out (fun _ => hb))
        clear hc hb
        go_wp2_with fail
        refine (HC.out s[k] w).mono ?_
        rintro e w' ⟨rfl, rfl⟩
        rw [HB.out]
        go_wp2
        go_ret
        exact ⟨ret_int (by first | rw [HR.out] | rw [Int.toNat_natCast, HR.out]), rfl⟩
    · have HR := Lib.hid (runTo_is (s := s) hak hk hall.out (fun h => absurd h hlt))
      go_wp2
      go_ret
      exact ⟨ret_int (by first | rw [HR.out] | rw [Int.toNat_natCast, HR.out]), rfl⟩

theorem ctl_run (s : ByteArray) : decide (runTo (fun c => !isCtl c) s 0 < s.size) = ctl s := by
  have hz : s.data.toList.length = s.size := by simp
  unfold runTo ctl
  rw [← hz]
  simp only [List.drop_zero, Nat.zero_add]
  induction s.data.toList with
  | nil => simp
  | cons c r ih =>
    rw [List.takeWhile_cons]
    by_cases h : isCtl c = true
    · simp [h]
    · simp only [Bool.not_eq_true] at h
      simp [h, ← ih]

set_option maxHeartbeats 1000000 in
theorem hasControl_any (s : ByteArray) (w : World) (hs : s.size ≤ 9223372036854775807) :
    Calls Tryd.prog 38 #[.string s] w fun e w' => e = .returned (.bool (ctl s)) ∧ w' = w := by
  have HR := Lib.hid (ctl_run s)
  go_enter Tryd.func38, Tryd.ntmps38
  go_wp2_with fail
  refine (runEnd_any isNoControl_class s 0 _ hs (by omega) (by omega)).mono ?_
  rintro e w' ⟨rfl, rfl⟩
  go_wp2
  go_ret
  exact ⟨ret_bool HR.out, rfl⟩
end Go.Proofs.YtjfpaahidfhkoaaDoor.Ke
