/- Package text: Check on both sides; what other parts use. -/
import Derived.Test.YtfpiannnggkdiaaDoorRows
import Derived.Test.YtfpiannnggkdiaaDoorOlA
import Derived.WalkKit
import Derived.Lib.Hide
import Derived.Outline
import Derived.Shelf.Abstract
import Derived.KernelRfl
import Derived.Below
namespace Go.Proofs.YtfpiannnggkdiaaDoor
open Go.RowKit

theorem ret_int {k : IntKind} {a b : Int} (h : a = b) : Ending.returned (.int k a) = .returned (.int k b) := by rw [h]
theorem ret_bool {a b : Bool} (h : a = b) : Ending.returned (.bool a) = .returned (.bool b) := by rw [h]

def cNoControl (c : UInt8) : Bool := decide (32 ≤ (c.toNat : Int) ∧ (c.toNat : Int) ≠ 127)

set_option maxHeartbeats 1000000 in
theorem isNoControl_any (c : UInt8) (w : World) :
    Calls Tryd.prog 117 #[.int .u8 c.toNat] w fun e w' => e = .returned (.bool (cNoControl c)) ∧ w' = w := by
  go_enter Tryd.func117, Tryd.ntmps117
  go_wp2
  all_goals go_ret
  all_goals refine ⟨ret_bool ?_, rfl⟩
  all_goals rw [Bool.eq_iff_iff]
  all_goals simp [cNoControl]
  all_goals omega

/-- Where a run of bytes of a class ends. -/
def runTo (cls : UInt8 → Bool) (s : ByteArray) (from_ : Nat) : Nat := from_ + ((s.data.toList.drop from_).takeWhile cls).length

theorem takeWhile_len {cls : UInt8 → Bool} {l : List UInt8} {n : Nat} (h : ∀ j (hj : j < l.length), j < n → cls l[j] = true) (hn : n ≤ l.length) (he : ∀ (hj : n < l.length), cls l[n] = false) : (l.takeWhile cls).length = n := by
  induction l generalizing n with
  | nil => simp at hn; subst hn; rfl
  | cons c r ih =>
    cases n with
    | zero =>
      have := he (by simp)
      simp at this
      simp [List.takeWhile_cons, this]
    | succ n =>
      have h0 := h 0 (by simp) (by omega)
      simp at h0
      rw [List.takeWhile_cons, if_pos h0, List.length_cons]
      have h1 : ∀ j (hj : j < r.length), j < n → cls r[j] = true := fun j hj hjn => by
        have := h (j + 1) (by simp; omega) (by omega)
        simpa using this
      have h2 : ∀ (hj : n < r.length), cls r[n] = false := fun hj => by
        have := he (by simp; omega)
        simpa using this
      rw [ih h1 (by simp at hn; omega) h2]

theorem runTo_is {cls : UInt8 → Bool} {s : ByteArray} {a k : Nat} (hak : a ≤ k) (hk : k ≤ s.size) (h : ∀ j (hj : j < s.size), a ≤ j → j < k → cls s[j] = true) (he : ∀ (hj : k < s.size), cls s[k] = false) : runTo cls s a = k := by
  have hz : s.data.toList.length = s.size := by simp
  unfold runTo
  rw [takeWhile_len (n := k - a)]
  · omega
  · intro j hj hjk
    rw [List.getElem_drop]
    have := h (a + j) (by rw [List.length_drop] at hj; omega) (by omega) (by omega)
    rw [ByteArray.getElem_eq_getElem_data] at this
    simpa using this
  · rw [List.length_drop]; omega
  · intro hj
    rw [List.length_drop] at hj
    rw [List.getElem_drop]
    have := he (by omega)
    rw [ByteArray.getElem_eq_getElem_data] at this
    have e : a + (k - a) = k := by omega
    simpa [e] using this

/-- A function of one byte that says of which class it is. -/
structure ClassFn (K : Nat) (cls : UInt8 → Bool) : Prop where
  enter : ∀ (xs : Array Value) (W : World), (callFunc K xs).run Tryd.prog W = .ok (.enter K xs) W
  calls : ∀ (c : UInt8) (W : World), Calls Tryd.prog K #[.int .u8 c.toNat] W fun e w' => e = .returned (.bool (cls c)) ∧ w' = W

theorem isNoControl_class : ClassFn 117 cNoControl := ⟨enters_of Tryd.func117 (by kernel_rfl) rfl, isNoControl_any⟩

set_option maxHeartbeats 1000000 in
/-- The end of a run of bytes that a function is true of. -/
theorem runEnd_any {K : Nat} {cls : UInt8 → Bool} (hK : ClassFn K cls) (s : ByteArray) (a : Int) (w : World) (hs : s.size ≤ 9223372036854775807) (h0 : 0 ≤ a) (ha : a ≤ s.size) :
    Calls Tryd.prog 116 #[.string s, .int .i64 a, .func (Fn.func K) #[] #[]] w fun e w' => e = .returned (.int .i64 (runTo cls s a.toNat)) ∧ w' = w := by
  obtain ⟨a, rfl⟩ := Int.eq_ofNat_of_zero_le h0
  have hen := hK.enter
  have HC := Lib.hid hK.calls
  go_enter Tryd.func116, Tryd.ntmps116
  go_wp2
  go_loop [1] (fun i => ∃ k : Nat, a ≤ k ∧ k ≤ s.size ∧ i = .int .i64 k ∧ Hid (∀ j (hj : j < s.size), a ≤ j → j < k → cls s[j] = true)) (fun i => s.size - (intOf i).toNat)
  case atStart => exact ⟨a, Nat.le_refl _, by omega, rfl, fun j _ _ hj => by omega⟩
  case round =>
    obtain ⟨k, hak, hk, rfl, hall⟩ := hrel
    by_cases hlt : k < s.size
    · by_cases hc : cls s[k] = true
      · have HB := Lib.hid hc
        clear hc
        go_wp2_with fail
        refine (HC.out s[k] w).mono ?_
        rintro e w' ⟨rfl, rfl⟩
        rw [HB.out]
        go_wp2
        go_round
        case rel => exact ⟨k + 1, by omega, by omega, by go_num, fun j hj h1 h2 => by
          rcases Nat.lt_succ_iff_lt_or_eq.1 h2 with h | rfl
          · exact hall.out j hj h1 h
          · exact HB.out⟩
        case measure => simp [intOf]; omega
      · have hb : cls s[k] = false := by simpa using hc
        have HB := Lib.hid hb
        have HR := Lib.hid (runTo_is (s := s) hak hk hall.out (fun _ => hb))
        clear hc hb
        go_wp2_with fail
        refine (HC.out s[k] w).mono ?_
        rintro e w' ⟨rfl, rfl⟩
        rw [HB.out]
        go_wp2
        go_ret
        exact ⟨ret_int (by first | rw [HR.out] | rw [Int.toNat_natCast, HR.out]), rfl⟩
    · have HR := Lib.hid (runTo_is (s := s) hak hk hall.out (fun h => absurd h hlt))
      go_wp2
      go_ret
      exact ⟨ret_int (by first | rw [HR.out] | rw [Int.toNat_natCast, HR.out]), rfl⟩
theorem mem_at {s : ByteArray} {k : Nat} (hk : k < s.size) : s[k] ∈ s.data.toList := by rw [ByteArray.getElem_eq_getElem_data]; exact Array.getElem_mem_toList _
theorem at_mem {s : ByteArray} {c : UInt8} (h : c ∈ s.data.toList) : ∃ (k : Nat) (hk : k < s.size), s[k] = c := by
  obtain ⟨j, hj, rfl⟩ := List.getElem_of_mem h
  have hj2 : j < s.size := by rw [Array.length_toList] at hj; exact hj
  exact ⟨j, hj2, by rw [ByteArray.getElem_eq_getElem_data]; rfl⟩
/-- A byte that Check refuses. -/
def ctl (s : ByteArray) : Bool := s.data.toList.any fun c => !cNoControl c
theorem takeWhile_any (p : UInt8 → Bool) : ∀ l : List UInt8, decide ((l.takeWhile p).length < l.length) = l.any fun c => !p c
  | [] => rfl
  | c :: l => by
    have h := takeWhile_any p l
    rw [List.takeWhile_cons, List.any_cons]
    cases hc : p c with
    | true => simpa using h
    | false => simp
theorem ctl_run (s : ByteArray) : decide (runTo cNoControl s 0 < s.size) = ctl s := by
  have h := takeWhile_any cNoControl s.data.toList
  unfold ctl
  rw [← h]
  unfold runTo
  rw [List.drop_zero, Nat.zero_add, Array.length_toList]
  rfl
theorem ctl_true {s : ByteArray} {k : Nat} (hk : k < s.size) (h : cNoControl s[k] = false) : ctl s = true := by
  unfold ctl
  rw [List.any_eq_true]
  exact ⟨s[k], mem_at hk, by simp [h]⟩
theorem ctl_false {s : ByteArray} (h : ∀ j (hj : j < s.size), cNoControl s[j] = true) : ctl s = false := by
  unfold ctl
  rw [List.any_eq_false]
  intro c hc
  obtain ⟨j, hj, rfl⟩ := at_mem hc
  simp [h j hj]

set_option maxHeartbeats 1000000 in
theorem hasControl_any (s : ByteArray) (w : World) (hs : s.size ≤ 4000000000) :
    Calls Tryd.prog 105 #[.string s] w fun e w' => e = .returned (.bool (ctl s)) ∧ w' = w := by
  obtain ⟨r, hr⟩ : ∃ r, r = runTo cNoControl s 0 := ⟨_, rfl⟩
  have h := ctl_run s
  rw [← hr] at h
  have HR := Lib.hid (runEnd_any isNoControl_class s 0 w (by omega) (by omega) (by omega))
  have HE : Hid (runTo cNoControl s (0 : Int).toNat = r) := Lib.hid hr.symm
  have HC := Lib.hid h
  clear h hr
  go_enter Tryd.func105, Tryd.ntmps105
  go_wp2_with fail
  refine HR.out.mono ?_
  rintro e1 w1 ⟨rfl, rfl⟩
  rw [HE.out]
  go_wp2
  go_ret
  exact ⟨ret_bool HC.out, rfl⟩

def checkV (s : ByteArray) : Int := if 2000 < s.size then 4 else if ctl s = true then 9 else 0
set_option maxHeartbeats 1000000 in
theorem check_any (s : ByteArray) (w : World) (hs : s.size ≤ 4000000000) :
    Calls Tryd.prog 86 #[.string s] w fun e w' => e = .returned (.int .i64 (checkV s)) ∧ w' = w := by
  by_cases h1 : 2000 < s.size
  · have hv : checkV s = 4 := by unfold checkV; rw [if_pos h1]
    have p : (2000 : Int) < s.size := by omega
    rw [hv]; clear hv
    go_enter Tryd.func86, Tryd.ntmps86
    go_wp2
    go_ret
    exact ⟨rfl, rfl⟩
  · have p : ¬ (2000 : Int) < s.size := by omega
    have hh := hasControl_any s w hs
    cases hc : ctl s with
    | true =>
      have hv : checkV s = 9 := by unfold checkV; rw [if_neg h1, if_pos hc]
      rw [hv]
      rw [hc] at hh
      have HH := Lib.hid hh
      clear hh hv hc
      go_enter Tryd.func86, Tryd.ntmps86
      go_wp2_with fail
      refine HH.out.mono ?_
      rintro e1 w1 ⟨rfl, rfl⟩
      go_wp2
      go_ret
      exact ⟨rfl, rfl⟩
    | false =>
      have hv : checkV s = 0 := by unfold checkV; rw [if_neg h1, if_neg (by simp [hc])]
      rw [hv]
      rw [hc] at hh
      have HH := Lib.hid hh
      clear hh hv hc
      go_enter Tryd.func86, Tryd.ntmps86
      go_wp2_with fail
      refine HH.out.mono ?_
      rintro e1 w1 ⟨rfl, rfl⟩
      go_wp2
      go_ret
      exact ⟨rfl, rfl⟩
/-- The first error of the texts of lines. -/
def firstBad : List Ln → Int
  | [] => 0
  | x :: l => if checkV x.text = 0 then firstBad l else checkV x.text
theorem checkV_cases (s : ByteArray) : checkV s = 0 ∨ checkV s = 4 ∨ checkV s = 9 := by
  unfold checkV
  split
  · exact .inr (.inl rfl)
  · split
    · exact .inr (.inr rfl)
    · exact .inl rfl
theorem firstBad_at {l : List Ln} {j : Nat} (hj : j < l.length) (h : firstBad l = firstBad (l.drop j)) (h0 : checkV l[j].text = 0) : firstBad l = firstBad (l.drop (j + 1)) := by
  rw [h, List.drop_eq_getElem_cons hj, firstBad, if_pos h0]
theorem firstBad_hit {l : List Ln} {j : Nat} (hj : j < l.length) (h : firstBad l = firstBad (l.drop j)) (h0 : checkV l[j].text ≠ 0) : firstBad l = checkV l[j].text := by
  rw [h, List.drop_eq_getElem_cons hj, firstBad, if_neg h0]
theorem firstBad_end {l : List Ln} {j : Nat} (hj : j = l.length) (h : firstBad l = firstBad (l.drop j)) : firstBad l = 0 := by
  rw [h, hj, List.drop_length]; rfl
/-- What is handed back: the code, and the lines. -/
def outCode (s : ByteArray) : Int :=
  if 400000 < s.size then 4 else if synOk s = false then 8 else if firstBad (lnsOf s) ≠ 0 then firstBad (lnsOf s) else if 2000 < (lnsOf s).length then 4 else 0
def outLns (s : ByteArray) : List Ln := if outCode s = 0 then lnsOf s else []
theorem out_large {s : ByteArray} (h : 400000 < s.size) : outCode s = 4 ∧ outLns s = [] := by
  have e : outCode s = 4 := by unfold outCode; rw [if_pos h]
  exact ⟨e, by unfold outLns; rw [e]; rfl⟩
theorem out_syntax {s : ByteArray} (h : ¬ 400000 < s.size) (h1 : synOk s = false) : outCode s = 8 ∧ outLns s = [] := by
  have e : outCode s = 8 := by unfold outCode; rw [if_neg h, if_pos h1]
  exact ⟨e, by unfold outLns; rw [e]; rfl⟩
theorem out_text {s : ByteArray} (h : ¬ 400000 < s.size) (h1 : synOk s = true) (h2 : firstBad (lnsOf s) ≠ 0) : outCode s = firstBad (lnsOf s) ∧ outLns s = [] := by
  have e : outCode s = firstBad (lnsOf s) := by unfold outCode; rw [if_neg h, if_neg (by simp [h1]), if_pos h2]
  exact ⟨e, by unfold outLns; rw [e, if_neg h2]⟩
theorem out_many {s : ByteArray} (h : ¬ 400000 < s.size) (h1 : synOk s = true) (h2 : firstBad (lnsOf s) = 0) (h3 : 2000 < (lnsOf s).length) : outCode s = 4 ∧ outLns s = [] := by
  have e : outCode s = 4 := by unfold outCode; rw [if_neg h, if_neg (by simp [h1]), if_neg (by simp [h2]), if_pos h3]
  exact ⟨e, by unfold outLns; rw [e]; rfl⟩
theorem out_ok {s : ByteArray} (h : ¬ 400000 < s.size) (h1 : synOk s = true) (h2 : firstBad (lnsOf s) = 0) (h3 : ¬ 2000 < (lnsOf s).length) : outCode s = 0 ∧ outLns s = lnsOf s := by
  have e : outCode s = 0 := by unfold outCode; rw [if_neg h, if_neg (by simp [h1]), if_neg (by simp [h2]), if_neg h3]
  exact ⟨e, by unfold outLns; rw [if_pos e]⟩
theorem out_len (s : ByteArray) : (outLns s).length ≤ 2000 := by
  by_cases h : 400000 < s.size
  · rw [(out_large h).2]; simp
  · cases h1 : synOk s with
    | false => rw [(out_syntax h h1).2]; simp
    | true =>
      by_cases h2 : firstBad (lnsOf s) = 0
      · by_cases h3 : 2000 < (lnsOf s).length
        · rw [(out_many h h1 h2 h3).2]; simp
        · rw [(out_ok h h1 h2 h3).2]; omega
      · rw [(out_text h h1 h2).2]; simp

/-! ### Rows of lines -/
def Ln.cells (x : Ln) : List Value := [.int .i64 x.depth, .string x.text]
theorem Ln.cells_len (x : Ln) : x.cells.length = 2 := rfl
theorem ln_flat : ∀ (l : List Ln) (j : Nat) (h : j < l.length) (c : Nat), c < 2 → (l.flatMap Ln.cells)[j * 2 + c]? = (l[j]).cells[c]?
  | x :: l, 0, _, c, hc => by
    rw [List.flatMap_cons, List.getElem?_append_left (by rw [Ln.cells_len]; omega), Nat.zero_mul, Nat.zero_add]
    rfl
  | x :: l, j + 1, h, c, hc => by
    rw [List.flatMap_cons, List.getElem?_append_right (by rw [Ln.cells_len]; omega), Ln.cells_len]
    have e : (j + 1) * 2 + c - 2 = j * 2 + c := by omega
    rw [e, ln_flat l j (by simpa using h) c hc]
    rfl
theorem lnFlat_len (l : List Ln) : (l.flatMap Ln.cells).length = l.length * 2 := by
  induction l with
  | nil => rfl
  | cons x l ih => rw [List.flatMap_cons, List.length_append, Ln.cells_len, ih, List.length_cons]; omega
theorem lnFlat_snoc (l : List Ln) (x : Ln) : (l ++ [x]).flatMap Ln.cells = l.flatMap Ln.cells ++ x.cells := by simp
end Go.Proofs.YtfpiannnggkdiaaDoor
