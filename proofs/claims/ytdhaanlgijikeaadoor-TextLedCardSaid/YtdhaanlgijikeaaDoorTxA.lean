/- Package text, part 1: classes of bytes, and where a run of a class ends. -/
import Derived.Test.YtdhaanlgijikeaaDoorRows
import Derived.WalkKit
import Derived.Lib.Hide
import Derived.Outline
import Derived.Shelf.Abstract
import Derived.KernelRfl
namespace Go.Proofs.YtdhaanlgijikeaaDoor
open Go.RowKit

theorem ret_int {k : IntKind} {a b : Int} (h : a = b) : Ending.returned (.int k a) = .returned (.int k b) := by rw [h]
theorem ret_bool {a b : Bool} (h : a = b) : Ending.returned (.bool a) = .returned (.bool b) := by rw [h]

def cDigit (c : UInt8) : Bool := decide (48 ≤ (c.toNat : Int) ∧ (c.toNat : Int) ≤ 57)
def cLetter (c : UInt8) : Bool := decide ((97 ≤ (c.toNat : Int) ∧ (c.toNat : Int) ≤ 122) ∨ (65 ≤ (c.toNat : Int) ∧ (c.toNat : Int) ≤ 90) ∨ 128 ≤ (c.toNat : Int))
def cPunct (c : UInt8) : Bool := decide ((33 ≤ (c.toNat : Int) ∧ (c.toNat : Int) ≤ 47) ∨ (58 ≤ (c.toNat : Int) ∧ (c.toNat : Int) ≤ 64) ∨ (91 ≤ (c.toNat : Int) ∧ (c.toNat : Int) ≤ 96) ∨ (123 ≤ (c.toNat : Int) ∧ (c.toNat : Int) ≤ 126))
def cTarget (c : UInt8) : Bool := decide (32 ≤ (c.toNat : Int) ∧ (c.toNat : Int) ≠ 91 ∧ (c.toNat : Int) ≠ 93 ∧ (c.toNat : Int) ≠ 124 ∧ (c.toNat : Int) ≠ 96)
def cShown (c : UInt8) : Bool := decide ((c.toNat : Int) ≠ 91 ∧ (c.toNat : Int) ≠ 93)
def cTag (c : UInt8) : Bool := cLetter c || cDigit c || decide ((c.toNat : Int) = 95 ∨ (c.toNat : Int) = 45 ∨ (c.toNat : Int) = 47)
def cKeeps (c : UInt8) : Bool := cLetter c || cDigit c || decide ((c.toNat : Int) = 35 ∨ (c.toNat : Int) = 38)
def cNoControl (c : UInt8) : Bool := decide (32 ≤ (c.toNat : Int) ∧ (c.toNat : Int) ≠ 127)

set_option maxHeartbeats 1000000 in
theorem isDigit_any (c : UInt8) (w : World) :
    Calls Tryd.prog 41 #[.int .u8 c.toNat] w fun e w' => e = .returned (.bool (cDigit c)) ∧ w' = w := by
  go_enter Tryd.func41, Tryd.ntmps41
  go_wp2
  all_goals go_ret
  all_goals refine ⟨ret_bool ?_, rfl⟩
  all_goals rw [Bool.eq_iff_iff]
  all_goals simp [cDigit]
  all_goals omega

set_option maxHeartbeats 1000000 in
theorem isLetter_any (c : UInt8) (w : World) :
    Calls Tryd.prog 50 #[.int .u8 c.toNat] w fun e w' => e = .returned (.bool (cLetter c)) ∧ w' = w := by
  go_enter Tryd.func50, Tryd.ntmps50
  go_wp2
  all_goals go_ret
  all_goals refine ⟨ret_bool ?_, rfl⟩
  all_goals rw [Bool.eq_iff_iff]
  all_goals simp [cLetter]
  all_goals omega

set_option maxHeartbeats 1000000 in
theorem isPunctuation_any (c : UInt8) (w : World) :
    Calls Tryd.prog 38 #[.int .u8 c.toNat] w fun e w' => e = .returned (.bool (cPunct c)) ∧ w' = w := by
  go_enter Tryd.func38, Tryd.ntmps38
  go_wp2
  all_goals go_ret
  all_goals refine ⟨ret_bool ?_, rfl⟩
  all_goals rw [Bool.eq_iff_iff]
  all_goals simp [cPunct]
  all_goals omega

set_option maxHeartbeats 1000000 in
theorem isTargetByte_any (c : UInt8) (w : World) :
    Calls Tryd.prog 23 #[.int .u8 c.toNat] w fun e w' => e = .returned (.bool (cTarget c)) ∧ w' = w := by
  go_enter Tryd.func23, Tryd.ntmps23
  go_wp2
  all_goals go_ret
  all_goals refine ⟨ret_bool ?_, rfl⟩
  all_goals rw [Bool.eq_iff_iff]
  all_goals simp [cTarget]
  all_goals omega

set_option maxHeartbeats 1000000 in
theorem isShownByte_any (c : UInt8) (w : World) :
    Calls Tryd.prog 40 #[.int .u8 c.toNat] w fun e w' => e = .returned (.bool (cShown c)) ∧ w' = w := by
  go_enter Tryd.func40, Tryd.ntmps40
  go_wp2
  all_goals go_ret
  all_goals refine ⟨ret_bool ?_, rfl⟩
  all_goals rw [Bool.eq_iff_iff]
  all_goals simp [cShown]
  all_goals omega

set_option maxHeartbeats 1000000 in
theorem isTagByte_any (c : UInt8) (w : World) :
    Calls Tryd.prog 43 #[.int .u8 c.toNat] w fun e w' => e = .returned (.bool (cTag c)) ∧ w' = w := by
  rcases hl : cLetter c with _ | _ <;> rcases hd : cDigit c with _ | _
  all_goals
    have HL := Lib.hid hl
    have HD := Lib.hid hd
    clear hl hd
    go_enter Tryd.func43, Tryd.ntmps43
    go_wp2_with (first | (go_at_call 50; refine (isLetter_any _ _).mono ?_; rintro e w' ⟨rfl, rfl⟩; rw [HL.out]) | (go_at_call 41; refine (isDigit_any _ _).mono ?_; rintro e w' ⟨rfl, rfl⟩; rw [HD.out]))
    all_goals go_ret
    all_goals refine ⟨ret_bool ?_, rfl⟩
    all_goals unfold cTag
    all_goals rw [HL.out, HD.out, Bool.eq_iff_iff]
    all_goals simp
    all_goals omega

set_option maxHeartbeats 1000000 in
theorem keepsFromTag_any (c : UInt8) (w : World) :
    Calls Tryd.prog 42 #[.int .u8 c.toNat] w fun e w' => e = .returned (.bool (cKeeps c)) ∧ w' = w := by
  rcases hl : cLetter c with _ | _ <;> rcases hd : cDigit c with _ | _
  all_goals
    have HL := Lib.hid hl
    have HD := Lib.hid hd
    clear hl hd
    go_enter Tryd.func42, Tryd.ntmps42
    go_wp2_with (first | (go_at_call 50; refine (isLetter_any _ _).mono ?_; rintro e w' ⟨rfl, rfl⟩; rw [HL.out]) | (go_at_call 41; refine (isDigit_any _ _).mono ?_; rintro e w' ⟨rfl, rfl⟩; rw [HD.out]))
    all_goals go_ret
    all_goals refine ⟨ret_bool ?_, rfl⟩
    all_goals unfold cKeeps
    all_goals rw [HL.out, HD.out, Bool.eq_iff_iff]
    all_goals simp
    all_goals omega

set_option maxHeartbeats 1000000 in
theorem isNoLetter_any (c : UInt8) (w : World) :
    Calls Tryd.prog 51 #[.int .u8 c.toNat] w fun e w' => e = .returned (.bool (!cLetter c)) ∧ w' = w := by
  go_enter Tryd.func51, Tryd.ntmps51
  go_wp2_with (go_at_call 50; refine (isLetter_any _ _).mono ?_; rintro e w' ⟨rfl, rfl⟩)
  go_ret
  exact ⟨rfl, rfl⟩

/-- Where a run of bytes of a class ends. -/
def runTo (cls : UInt8 → Bool) (s : ByteArray) (from_ : Nat) : Nat := from_ + ((s.data.toList.drop from_).takeWhile cls).length

theorem takeWhile_len {cls : UInt8 → Bool} {l : List UInt8} {n : Nat} (h : ∀ j (hj : j < l.length), j < n → cls l[j] = true) (hn : n ≤ l.length) (he : ∀ (hj : n < l.length), cls l[n] = false) : (l.takeWhile cls).length = n := by
  induction l generalizing n with
  | nil => simp at hn; subst hn; rfl
  | cons c r ih =>
    cases n with
    | zero =>
      have := he (by simp)
      simp at this
      simp [List.takeWhile_cons, this]
    | succ n =>
      have h0 := h 0 (by simp) (by omega)
      simp at h0
      rw [List.takeWhile_cons, if_pos h0, List.length_cons]
      have h1 : ∀ j (hj : j < r.length), j < n → cls r[j] = true := fun j hj hjn => by
        have := h (j + 1) (by simp; omega) (by omega)
        simpa using this
      have h2 : ∀ (hj : n < r.length), cls r[n] = false := fun hj => by
        have := he (by simp; omega)
        simpa using this
      rw [ih h1 (by simp at hn; omega) h2]

theorem runTo_is {cls : UInt8 → Bool} {s : ByteArray} {a k : Nat} (hak : a ≤ k) (hk : k ≤ s.size) (h : ∀ j (hj : j < s.size), a ≤ j → j < k → cls s[j] = true) (he : ∀ (hj : k < s.size), cls s[k] = false) : runTo cls s a = k := by
  have hz : s.data.toList.length = s.size := by simp
  unfold runTo
  rw [takeWhile_len (n := k - a)]
  · omega
  · intro j hj hjk
    rw [List.getElem_drop]
    have := h (a + j) (by rw [List.length_drop] at hj; omega) (by omega) (by omega)
    rw [ByteArray.getElem_eq_getElem_data] at this
    simpa using this
  · rw [List.length_drop]; omega
  · intro hj
    rw [List.length_drop] at hj
    rw [List.getElem_drop]
    have := he (by omega)
    rw [ByteArray.getElem_eq_getElem_data] at this
    have e : a + (k - a) = k := by omega
    simpa [e] using this

/-- A function of one byte that says of which class it is. -/
structure ClassFn (K : Nat) (cls : UInt8 → Bool) : Prop where
  enter : ∀ (xs : Array Value) (W : World), (callFunc K xs).run Tryd.prog W = .ok (.enter K xs) W
  calls : ∀ (c : UInt8) (W : World), Calls Tryd.prog K #[.int .u8 c.toNat] W fun e w' => e = .returned (.bool (cls c)) ∧ w' = W


theorem isDigit_class : ClassFn 41 cDigit := ⟨enters_of Tryd.func41 (by kernel_rfl) rfl, isDigit_any⟩
theorem isTargetByte_class : ClassFn 23 cTarget := ⟨enters_of Tryd.func23 (by kernel_rfl) rfl, isTargetByte_any⟩
theorem isShownByte_class : ClassFn 40 cShown := ⟨enters_of Tryd.func40 (by kernel_rfl) rfl, isShownByte_any⟩
theorem isTagByte_class : ClassFn 43 cTag := ⟨enters_of Tryd.func43 (by kernel_rfl) rfl, isTagByte_any⟩
theorem isNoLetter_class : ClassFn 51 (fun c => !cLetter c) := ⟨enters_of Tryd.func51 (by kernel_rfl) rfl, isNoLetter_any⟩

set_option maxHeartbeats 1000000 in
/-- The end of a run of bytes that a function is true of. -/
theorem runEnd_any {K : Nat} {cls : UInt8 → Bool} (hK : ClassFn K cls) (s : ByteArray) (a : Int) (w : World) (hs : s.size ≤ 9223372036854775807) (h0 : 0 ≤ a) (ha : a ≤ s.size) :
    Calls Tryd.prog 22 #[.string s, .int .i64 a, .func (Fn.func K) #[] #[]] w fun e w' => e = .returned (.int .i64 (runTo cls s a.toNat)) ∧ w' = w := by
  obtain ⟨a, rfl⟩ := Int.eq_ofNat_of_zero_le h0
  have hen := hK.enter
  have HC := Lib.hid hK.calls
  go_enter Tryd.func22, Tryd.ntmps22
  go_wp2
  go_loop [1] (fun i => ∃ k : Nat, a ≤ k ∧ k ≤ s.size ∧ i = .int .i64 k ∧ Hid (∀ j (hj : j < s.size), a ≤ j → j < k → cls s[j] = true)) (fun i => s.size - (intOf i).toNat)
  case atStart => exact ⟨a, Nat.le_refl _, by omega, rfl, fun j _ _ hj => by omega⟩
  case round =>
    obtain ⟨k, hak, hk, rfl, hall⟩ := hrel
    by_cases hlt : k < s.size
    · by_cases hc : cls s[k] = true
      · have HB := Lib.hid hc
        clear hc
        go_wp2_with fail
        refine (HC.out s[k] w).mono ?_
        rintro e w' ⟨rfl, rfl⟩
        rw [HB.out]
        go_wp2
        go_round
        case rel => exact ⟨k + 1, by omega, by omega, by go_num, fun j hj h1 h2 => by
          rcases Nat.lt_succ_iff_lt_or_eq.1 h2 with h | rfl
          · exact hall.out j hj h1 h
          · exact HB.out⟩
        case measure => simp [intOf]; omega
      · have hb : cls s[k] = false := by simpa using hc
        have HB := Lib.hid hb
        have HR := Lib.hid (runTo_is (s := s) hak hk hall.out (fun _ => hb))
        clear hc hb
        go_wp2_with fail
        refine (HC.out s[k] w).mono ?_
        rintro e w' ⟨rfl, rfl⟩
        rw [HB.out]
        go_wp2
        go_ret
        exact ⟨ret_int (by first | rw [HR.out] | rw [Int.toNat_natCast, HR.out]), rfl⟩
    · have HR := Lib.hid (runTo_is (s := s) hak hk hall.out (fun h => absurd h hlt))
      go_wp2
      go_ret
      exact ⟨ret_int (by first | rw [HR.out] | rw [Int.toNat_natCast, HR.out]), rfl⟩

end Go.Proofs.YtdhaanlgijikeaaDoor
