/- Properties: names. CheckName, and the reference's IsName. Properties: the reference's IsName. strings.IndexRune at a rune beyond ASCII, strings.IndexAny and ContainsAny at an ASCII set: of any bytes; the reference's lowByte. Properties: checkTitle, hasUnused, checkRange, days. -/
import Derived.Test.YtfpiannnggkdiaaDoorOlB
import Derived.Test.YtfpiannnggkdiaaDoorAlX
import Derived.Test.YtfpiannnggkdiaaDoorShelfP
import Derived.Shelf.Strings.SlTrimAscii
import Derived.WalkKit
import Derived.Lib.Hide
import Derived.Outline
import Derived.Below
import Derived.Deep.QuietTactic
import Derived.BigQuiet
import Derived.Test.YtfpiannnggkdiaaDoorPtC
import Derived.Laws.RangeAny
import Derived.WalkMore
import Derived.Deep.LoopGhost
import Derived.IntWalk
import Derived.Lib.IndexAny
import Derived.Deep.WholeRow
import Derived.Shelf.GgClosure.StringsRunes
namespace Go.Proofs.YtfpiannnggkdiaaDoor
open Go.RowKit Go.Shelf

def pLetter (c : UInt8) : Bool := decide (97 ≤ (c.toNat : Int) ∧ (c.toNat : Int) ≤ 122)
def pDigit (c : UInt8) : Bool := decide (48 ≤ (c.toNat : Int) ∧ (c.toNat : Int) ≤ 57)
def pName (c : UInt8) : Bool := pLetter c || pDigit c || decide ((c.toNat : Int) = 45)
def nameOk (s : ByteArray) : Bool := decide (1 ≤ s.size ∧ s.size ≤ 20) && (match s.data.toList with | [] => false | c :: _ => pLetter c) && s.data.toList.all pName

set_option maxHeartbeats 1000000 in
theorem pLetter_any (c : UInt8) (w : World) :
    Calls Tryd.prog 64 #[.int .u8 c.toNat] w fun e w' => e = .returned (.bool (pLetter c)) ∧ w' = w := by
  go_enter Tryd.func64, Tryd.ntmps64
  go_wp2
  all_goals go_ret
  all_goals refine ⟨ret_bool ?_, rfl⟩
  all_goals rw [Bool.eq_iff_iff]
  all_goals simp [pLetter]
  all_goals omega
set_option maxHeartbeats 1000000 in
theorem pDigit_any (c : UInt8) (w : World) :
    Calls Tryd.prog 65 #[.int .u8 c.toNat] w fun e w' => e = .returned (.bool (pDigit c)) ∧ w' = w := by
  go_enter Tryd.func65, Tryd.ntmps65
  go_wp2
  all_goals go_ret
  all_goals refine ⟨ret_bool ?_, rfl⟩
  all_goals rw [Bool.eq_iff_iff]
  all_goals simp [pDigit]
  all_goals omega

theorem head_at {s : ByteArray} (h : 0 < s.size) : (match s.data.toList with | [] => false | c :: _ => pLetter c) = pLetter s[0] := by
  have e : s.data.toList[0]? = some s[0] := by
    rw [ByteArray.getElem_eq_getElem_data, ← Array.getElem_toList, List.getElem?_eq_getElem]
  cases hl : s.data.toList with
  | nil => rw [hl] at e; cases e
  | cons c l => rw [hl] at e; simp at e; rw [e]
theorem nameOk_head {s : ByteArray} (h : 0 < s.size) (h1 : pLetter s[0] = false) : nameOk s = false := by
  unfold nameOk; rw [head_at h, h1]; simp
theorem nameOk_size {s : ByteArray} (h : ¬ (1 ≤ s.size ∧ s.size ≤ 20)) : nameOk s = false := by
  unfold nameOk; rw [decide_eq_false h]; rfl
theorem nameOk_byte {s : ByteArray} {k : Nat} (hk : k < s.size) (h : pName s[k] = false) : nameOk s = false := by
  have : s.data.toList.all pName = false := by rw [List.all_eq_false]; exact ⟨_, mem_at hk, by simp [h]⟩
  unfold nameOk; rw [this, Bool.and_false]
theorem nameOk_yes {s : ByteArray} (h : 1 ≤ s.size ∧ s.size ≤ 20) (h1 : pLetter s[0] = true) (h2 : ∀ j (hj : j < s.size), pName s[j] = true) : nameOk s = true := by
  have : s.data.toList.all pName = true := by
    rw [List.all_eq_true]
    intro c hc
    obtain ⟨j, hj, rfl⟩ := at_mem hc
    exact h2 j hj
  unfold nameOk; rw [decide_eq_true h, head_at (by omega), h1, this]; rfl
def nameE (s : ByteArray) : Int := if nameOk s then 0 else 3

set_option maxRecDepth 100000 in
set_option maxHeartbeats 4000000 in
theorem checkName_any (s : ByteArray) (w : World) (hs : s.size ≤ 9223372036854775807) :
    Calls Tryd.prog 43 #[.string s] w fun e w' => e = .returned (.int .i64 (nameE s)) ∧ w' = w := by
  by_cases h0 : s.size = 0
  · have z1 : s.toList = [] := by rw [ByteArray.toList_eq]; exact List.eq_nil_of_length_eq_zero (by simpa using h0)
    have z2 : s.toList.isEmpty = true := by rw [z1]; rfl
    have HE : Hid (nameE s = 3) := Lib.hid (by unfold nameE; rw [nameOk_size (by omega)]; rfl)
    clear h0
    go_enter Tryd.func43, Tryd.ntmps43
    go_wp2
    go_ret
    exact ⟨ret_int HE.out.symm, rfl⟩
  · have z1 : ¬ s.toList = [] := by
      rw [ByteArray.toList_eq]; intro e; have h1 := congrArg List.length e; rw [← sizeL] at h1; exact h0 h1
    have z2 : s.toList.isEmpty = false := by
      cases he : s.toList.isEmpty with
      | false => rfl
      | true => exact absurd (List.isEmpty_iff.1 he) z1
    have hpos : 0 < s.size := by omega
    have p0 : (0 : Int) < s.size := by omega
    by_cases h1 : 20 < s.size
    · have HE : Hid (nameE s = 3) := Lib.hid (by unfold nameE; rw [nameOk_size (by omega)]; rfl)
      have p1 : (20 : Int) < s.size := by omega
      clear h1
      go_enter Tryd.func43, Tryd.ntmps43
      go_wp2
      go_ret
      exact ⟨ret_int HE.out.symm, rfl⟩
    · have p1 : ¬ (20 : Int) < s.size := by omega
      have HL := Lib.hid (fun W => pLetter_any s[0] W)
      rcases hl : pLetter s[0] with _ | _
      · have HE : Hid (nameE s = 3) := Lib.hid (by unfold nameE; rw [nameOk_head hpos hl]; rfl)
        rw [hl] at HL
        clear hl
        go_enter Tryd.func43, Tryd.ntmps43
        go_wp2_with fail
        refine (HL.out _).mono ?_
        rintro e1 w1 ⟨rfl, hw⟩
        rw [hw]
        clear hw
        go_wp2_with fail
        go_ret
        exact ⟨ret_int HE.out.symm, rfl⟩
      · rw [hl] at HL
        have HL1 := Lib.hid hl
        clear hl
        go_enter Tryd.func43, Tryd.ntmps43
        go_wp2_with fail
        refine (HL.out _).mono ?_
        rintro e1 w1 ⟨rfl, hw⟩
        rw [hw]
        clear hw
        go_wp2_with fail
        go_loop [19] (fun i => ∃ k : Nat, k ≤ s.size ∧ i = .int .i64 k ∧ Hid (∀ j (hj : j < s.size), j < k → pName s[j] = true)) (fun i => s.size - (intOf i).toNat)
        case atStart => exact ⟨0, Nat.zero_le _, rfl, fun j _ hj => by omega⟩
        case round =>
          obtain ⟨k, hk, rfl, hall⟩ := hrel
          by_cases hlt : k < s.size
          · have p2 : (k : Int) < s.size := by omega
            have HLk := Lib.hid (fun W => pLetter_any s[k] W)
            have HDk := Lib.hid (fun W => pDigit_any s[k] W)
            rcases hl : pLetter s[k] with _ | _
            · rw [hl] at HLk
              rcases hd : pDigit s[k] with _ | _
              · rw [hd] at HDk
                by_cases h45 : (s[k].toNat : Int) = 45
                · have HB : Hid (pName s[k] = true) := Lib.hid (by unfold pName; rw [decide_eq_true h45]; simp)
                  have q1 : ((s[k].toNat : Int) != 45) = false := by simpa using h45
                  have q2 : ((s[k].toNat : Int) == 45) = true := by simpa using h45
                  clear hl hd h45
                  go_wp2_with fail
                  refine (HLk.out _).mono ?_
                  rintro e2 w2 ⟨rfl, hw⟩
                  rw [hw]
                  clear hw
                  go_wp2_with fail
                  refine (HDk.out _).mono ?_
                  rintro e3 w3 ⟨rfl, hw⟩
                  rw [hw]
                  clear hw
                  go_wp2_with fail
                  go_round
                  case rel => exact ⟨k + 1, by omega, by go_num, fun j hj hjk => by
                    rcases Nat.lt_succ_iff_lt_or_eq.1 hjk with h | rfl
                    · exact hall.out j hj h
                    · exact HB.out⟩
                  case measure => simp [intOf]; omega
                · have HE : Hid (nameE s = 3) := Lib.hid (by unfold nameE; rw [nameOk_byte hlt (by unfold pName; rw [hl, hd, decide_eq_false h45]; rfl)]; rfl)
                  have q1 : ((s[k].toNat : Int) != 45) = true := by simpa using h45
                  have q2 : ((s[k].toNat : Int) == 45) = false := by simpa using h45
                  clear hl hd h45
                  go_wp2_with fail
                  refine (HLk.out _).mono ?_
                  rintro e2 w2 ⟨rfl, hw⟩
                  rw [hw]
                  clear hw
                  go_wp2_with fail
                  refine (HDk.out _).mono ?_
                  rintro e3 w3 ⟨rfl, hw⟩
                  rw [hw]
                  clear hw
                  go_wp2_with fail
                  go_ret
                  exact ⟨ret_int HE.out.symm, rfl⟩
              · rw [hd] at HDk
                have HB : Hid (pName s[k] = true) := Lib.hid (by unfold pName; rw [hd]; simp)
                clear hl hd
                go_wp2_with fail
                refine (HLk.out _).mono ?_
                rintro e2 w2 ⟨rfl, hw⟩
                rw [hw]
                clear hw
                go_wp2_with fail
                refine (HDk.out _).mono ?_
                rintro e3 w3 ⟨rfl, hw⟩
                rw [hw]
                clear hw
                go_wp2_with fail
                go_round
                case rel => exact ⟨k + 1, by omega, by go_num, fun j hj hjk => by
                  rcases Nat.lt_succ_iff_lt_or_eq.1 hjk with h | rfl
                  · exact hall.out j hj h
                  · exact HB.out⟩
                case measure => simp [intOf]; omega
            · rw [hl] at HLk
              have HB : Hid (pName s[k] = true) := Lib.hid (by unfold pName; rw [hl]; rfl)
              clear hl
              go_wp2_with fail
              refine (HLk.out _).mono ?_
              rintro e2 w2 ⟨rfl, hw⟩
              rw [hw]
              clear hw
              go_wp2_with fail
              go_round
              case rel => exact ⟨k + 1, by omega, by go_num, fun j hj hjk => by
                rcases Nat.lt_succ_iff_lt_or_eq.1 hjk with h | rfl
                · exact hall.out j hj h
                · exact HB.out⟩
              case measure => simp [intOf]; omega
          · have HE : Hid (nameE s = 0) := Lib.hid (by unfold nameE; rw [nameOk_yes (by omega) HL1.out (fun j hj => hall.out j hj (by omega))]; rfl)
            have p2 : ¬ (k : Int) < s.size := by omega
            go_wp2
            go_ret
            exact ⟨ret_int HE.out.symm, rfl⟩

/-! ### IsName -/
def nameSet : ByteArray := ⟨#[97, 98, 99, 100, 101, 102, 103, 104, 105, 106, 107, 108, 109, 110, 111, 112, 113, 114, 115, 116, 117, 118, 119, 120, 121, 122, 48, 49, 50, 51, 52, 53, 54, 55, 56, 57, 45]⟩
theorem set_name (c : UInt8) : nameSet.data.toList.contains c = pName c := by
  have h : ∀ n : Fin 256, nameSet.data.toList.contains (UInt8.ofNat n.val) = pName (UInt8.ofNat n.val) := by decide +kernel
  have := h ⟨c.toNat, c.toNat_lt⟩
  simpa using this
theorem dropWhile_nil {α : Type} (p : α → Bool) : ∀ l : List α, l.dropWhile p = [] ↔ l.all p = true
  | [] => by simp
  | c :: l => by
    have ih := dropWhile_nil p l
    rw [List.dropWhile_cons, List.all_cons]
    cases p c with
    | true => simpa using ih
    | false => simp
theorem trim_nil (l : List UInt8) : (Lib.trimS l nameSet.data.toList).isEmpty = l.all pName := by
  have e : (fun c => nameSet.data.toList.contains c) = pName := funext set_name
  unfold Lib.trimS Lib.trimLeftS Lib.trimRightS
  rw [e]
  rw [Bool.eq_iff_iff, List.isEmpty_iff, dropWhile_nil]
  constructor
  · intro h
    rw [List.all_reverse] at h
    have h2 : (l.reverse.dropWhile pName) = [] := by
      cases hl : l.reverse.dropWhile pName with
      | nil => rfl
      | cons c r =>
        have hc := List.head_dropWhile_not (l := l.reverse) pName (by rw [hl]; simp)
        rw [hl] at h
        simp only [hl, List.head_cons] at hc
        rw [List.all_cons, hc] at h
        cases h
    have h3 := (dropWhile_nil pName _).1 h2
    rwa [List.all_reverse] at h3
  · intro h
    have h2 : l.reverse.dropWhile pName = [] := (dropWhile_nil pName _).2 (by rw [List.all_reverse]; exact h)
    rw [h2]
    rfl
end Go.Proofs.YtfpiannnggkdiaaDoor
namespace Go.Proofs.YtfpiannnggkdiaaDoor
open Go.RowKit Go.Shelf

theorem zeroSet (w : World) : (zeroValue 182).run Tryd.prog w = .ok (.agg (Array.replicate 256 (.bool false))) w := by kernel_rfl
theorem trim_any (s : ByteArray) (cs : ByteArray) (w : World) (hs : s.size ≤ 9223372036854775807) (hcs : cs.size < 4294967281) (ha : ∀ (j : Nat) b, cs.data.toList[j]? = some b → b.toNat < 128) :
    Calls Tryd.prog 106 #[.string s, .string cs] w (Quiet w (.string ⟨(Lib.trimS s.data.toList cs.data.toList).toArray⟩)) :=
  Any.strings_Trim_ascii Tryd.lays160 zeroSet (by kernel_rfl) s cs w hs hcs ha

theorem letter_int (c : UInt8) : pLetter c = (decide ((97 : Int) ≤ c.toNat) && decide ((c.toNat : Int) ≤ 122)) := by
  unfold pLetter; rw [Bool.decide_and]
end Go.Proofs.YtfpiannnggkdiaaDoor
namespace Go.Proofs.YtfpiannnggkdiaaDoor
open Go.RowKit Go.Shelf

theorem str_empty {t : ByteArray} (h : t.size = 0) : t.toList = [] := by
  rw [ByteArray.toList_eq]; exact List.eq_nil_of_length_eq_zero (by simpa using h)
theorem str_isEmpty {t : ByteArray} (h : t.size = 0) : t.toList.isEmpty = true := by rw [str_empty h]; rfl
theorem str_full {t : ByteArray} (h : 0 < t.size) : ¬ t.toList = [] := by
  rw [ByteArray.toList_eq]; intro e; have h1 := congrArg List.length e; have h2 := Lib.size_eq t; simp only [List.length_nil] at h1; omega
theorem str_nonEmpty {t : ByteArray} (h : 0 < t.size) : t.toList.isEmpty = false := by
  cases he : t.toList.isEmpty with
  | false => rfl
  | true => exact absurd (List.isEmpty_iff.1 he) (str_full h)


theorem decode_wide (s : ByteArray) (pos : Nat) (h : pos < s.size) (ha : 128 ≤ (s[pos]'h).toNat) :
    1 ≤ (Utf8.decode s pos).2 ∧ (∀ k, k < (Utf8.decode s pos).2 → pos + k < s.size ∧ 128 ≤ (s.get! (pos + k)).toNat) ∧ 128 ≤ (Utf8.decode s pos).1 ∧
      ((Utf8.decode s pos).1 = 65533 ∨ Utf8.valid (Utf8.decode s pos).1 = true) ∧ (Utf8.decode s pos).1 ≤ 1114111 := by
  have hn : ¬ (s[pos]'h).toNat < 128 := by omega
  have h0 : (s[pos]'h).toNat < 256 := (s[pos]'h).toNat_lt
  have h1 : (s.get! (pos + 1)).toNat < 256 := (s.get! (pos + 1)).toNat_lt
  have h2 : (s.get! (pos + 2)).toNat < 256 := (s.get! (pos + 2)).toNat_lt
  have h3 : (s.get! (pos + 3)).toNat < 256 := (s.get! (pos + 3)).toNat_lt
  have hone : ∀ k, k < 1 → pos + k < s.size ∧ 128 ≤ (s.get! (pos + k)).toNat := by
    intro k hk
    obtain rfl : k = 0 := by omega
    rw [get_at s pos h]; exact ⟨h, ha⟩
  simp only [Utf8.decode, get_at s pos h, hn, if_false]
  generalize (s[pos]'h).toNat = b0 at *
  split
  · rename_i c1
    simp only [Bool.and_eq_true, beq_iff_eq, decide_eq_true_eq] at c1
    split
    · rename_i hc
      refine ⟨by omega, ?_, by simpa using hc, .inr ?_, by simp only; omega⟩
      · intro k hk
        rcases (by simp only at hk; omega : k = 0 ∨ k = 1) with rfl | rfl
        · exact hone 0 (by omega)
        · exact ⟨c1.2.1, by omega⟩
      · simp [Utf8.valid]; omega
    · exact ⟨Nat.le_refl _, hone, by decide, .inl rfl, by decide⟩
  split
  · rename_i c2
    simp only [Bool.and_eq_true, beq_iff_eq, decide_eq_true_eq] at c2
    split
    · rename_i hc
      simp only [Bool.and_eq_true, decide_eq_true_eq] at hc
      refine ⟨by omega, ?_, by simp only; omega, .inr hc.2, by simp only; omega⟩
      intro k hk
      rcases (by simp only at hk; omega : k = 0 ∨ k = 1 ∨ k = 2) with rfl | rfl | rfl
      · exact hone 0 (by omega)
      · exact ⟨c2.1.2.1, by omega⟩
      · exact ⟨c2.2.1, by omega⟩
    · exact ⟨Nat.le_refl _, hone, by decide, .inl rfl, by decide⟩
  split
  · rename_i c3
    simp only [Bool.and_eq_true, beq_iff_eq, decide_eq_true_eq] at c3
    split
    · rename_i hc
      simp only [Bool.and_eq_true, decide_eq_true_eq] at hc
      refine ⟨by omega, ?_, by simp only; omega, .inr hc.2, ?_⟩
      · intro k hk
        rcases (by simp only at hk; omega : k = 0 ∨ k = 1 ∨ k = 2 ∨ k = 3) with rfl | rfl | rfl | rfl
        · exact hone 0 (by omega)
        · exact ⟨c3.1.1.2.1, by omega⟩
        · exact ⟨c3.1.2.1, by omega⟩
        · exact ⟨c3.2.1, by omega⟩
      · have := hc.2
        simp [Utf8.valid] at this
        simp only; omega
    · exact ⟨Nat.le_refl _, hone, by decide, .inl rfl, by decide⟩
  exact ⟨Nat.le_refl _, hone, by decide, .inl rfl, by decide⟩

theorem ofNat_high {n : Nat} (h : 128 ≤ n) (h2 : n < 256) : 128 ≤ (UInt8.ofNat n).toNat := by
  rw [UInt8.toNat_ofNat']; omega
theorem encode_wide (r : Int) (h : 128 ≤ r) (hv : Utf8.valid r = true) : ∃ b, Utf8.encode r = b ∧ ∃ h2 : 2 ≤ b.size, b.size ≤ 4 ∧ 128 ≤ (b[b.size - 1]'(by omega)).toNat := by
  have hb : r ≤ 1114111 := by simp [Utf8.valid] at hv; omega
  obtain ⟨n, rfl⟩ := Int.eq_ofNat_of_zero_le (show 0 ≤ r by omega)
  have h' : ¬ n < 128 := by omega
  unfold Utf8.encode
  simp only [hv, if_true, Int.toNat_natCast, h', if_false]
  split
  · exact ⟨_, rfl, by show 2 ≤ 2; decide, by show 2 ≤ 4; decide, ofNat_high (by omega) (by omega)⟩
  split
  · exact ⟨_, rfl, by show 2 ≤ 3; decide, by show 3 ≤ 4; decide, ofNat_high (by omega) (by omega)⟩
  · exact ⟨_, rfl, by show 2 ≤ 4; decide, by show 4 ≤ 4; decide, ofNat_high (by omega) (by omega)⟩

def Ascii (chars : ByteArray) : Prop := ∀ (j : Nat) b, chars.data.toList[j]? = some b → b.toNat < 128
theorem Ascii.at {chars : ByteArray} (h : Ascii chars) {j : Nat} (hj : j < chars.size) : (chars[j]'hj).toNat < 128 := h j _ (Lib.data_getElem? chars j hj)
theorem indexByte_none {l : List UInt8} {c : UInt8} (h : ∀ b ∈ l, b ≠ c) : Lib.indexByte l c = -1 := by
  induction l with
  | nil => rfl
  | cons b l ih =>
    unfold Lib.indexByte
    have h1 : (b == c) = false := by simpa using h b (List.mem_cons_self ..)
    rw [h1, ih (fun x hx => h x (List.mem_cons_of_mem _ hx))]
    rfl
theorem Ascii.none {chars : ByteArray} (h : Ascii chars) {c : UInt8} (hc : 128 ≤ c.toNat) (a b : Nat) : Lib.indexByte (chars.extract a b).data.toList c = -1 := by
  refine indexByte_none fun x hx e => ?_
  subst e
  have : x ∈ chars.data.toList := by
    rw [ByteArray.data_extract, Array.toList_extract] at hx
    exact List.mem_of_mem_drop (List.mem_of_mem_take hx)
  obtain ⟨j, hj, e⟩ := List.getElem_of_mem this
  have := h j x (by rw [List.getElem?_eq_getElem hj, e])
  omega

set_option maxHeartbeats 4000000 in
set_option maxRecDepth 100000 in
theorem indexRune_error (chars : ByteArray) (w : World) (hac : Ascii chars) (hsz : chars.size ≤ 1000) :
    Calls Tryd.prog 131 #[.string chars, .int .i32 65533] w fun e w' => e = .returned (.int .i64 (-1)) ∧ Below w.heap.size w w' := by
  go_enter Tryd.func131, Tryd.ntmps131
  have HA := Lib.hid hac
  clear hac
  go_wp2_with fail
  go_loopg [5, 6] chars.size (fun g _ _ wx => ∃ i : Nat, i + g = chars.size ∧ wx = w.iter chars i)
  case atStart => exact ⟨0, by omega, rfl⟩
  case round =>
    obtain ⟨i, hig, rfl⟩ := hrel
    cases gk with
    | zero =>
      obtain rfl : i = chars.size := by omega
      have hnx := run_next_end (P := Tryd.prog) w chars chars.size
      go_wp2_with fail
      go_ret
      exact ⟨rfl, (Below.refl _ _).alloc (Nat.le_refl _) _⟩
    | succ g =>
      have hi : i < chars.size := by omega
      have h128 := HA.out.at hi
      have hnx := fun ty => run_next_ascii (P := Tryd.prog) w chars i ty hi h128
      have hne : (((chars[i]'hi).toNat : Int) == 65533) = false := by simp; omega
      clear h128
      go_wp2_with fail
      go_roundg g
      case measure => omega
      case rel => exact ⟨i + 1, by omega, rfl⟩

set_option maxHeartbeats 4000000 in
set_option maxRecDepth 100000 in
theorem indexRune_wide (chars : ByteArray) (r : Int) (w : World) (hac : Ascii chars) (hsz : chars.size ≤ 1000) (hr : 128 ≤ r) (hv : Utf8.valid r = true) (hne : r ≠ 65533) :
    Calls Tryd.prog 131 #[.string chars, .int .i32 r] w fun e w' => e = .returned (.int .i64 (-1)) ∧ Below w.heap.size w w' := by
  have hval : Lib.validRune r = true := by
    unfold Lib.validRune; simp [Utf8.valid] at hv; simp; omega
  have HVAL := Lib.hid hval
  have q1 : decide (r < 128) = false := by simp; omega
  have q2 : (r == 65533) = false := by simpa using hne
  have q3 : (0 : Int) ≤ r := by omega
  clear hval hne
  go_enter Tryd.func131, Tryd.ntmps131
  go_wp2_with fail
  refine (Tryd.utf8_ValidRune _ _).mono ?_
  rintro e w' ⟨rfl, rfl⟩
  rw [HVAL.out]
  obtain ⟨b, hb, h2, h4, hhi⟩ := encode_wide r hr hv
  have b1 : (1 : Int) ≤ b.size := by omega
  have b2 : (b.size : Int) ≤ 4 := by omega
  have b3 : (b.size : Int) - 1 < b.size := by omega
  have b4 : b.size - 1 < b.size := by omega
  have b5 : (0 : Int) ≤ (b.size : Int) - 1 := by omega
  have hhi2 : 128 ≤ (b[b.size - 1]'b4).toNat := hhi
  have HHI := Lib.hid hhi2
  have HAC := Lib.hid hac
  clear hhi hhi2 hac hr hv HVAL
  go_wp2_with fail
  go_step3
  go_wp2_with fail
  go_loopw [9, 10, 11, 12] (fun i _ _ _ wr => i = .int .i64 ((b.size : Int) - 1) ∧ wr = w') (fun _ _ _ _ _ => 0)
  case atStart => exact ⟨rfl, rfl⟩
  case round =>
    obtain ⟨rfl, rfl⟩ := hrel
    by_cases hlt : b.size - 1 < chars.size
    · have p1 : (b.size : Int) - 1 < chars.size := by omega
      have p2 : (b.size : Int) - 1 + 1 ≤ chars.size := by omega
      have p3 : (b.size : Int) ≤ chars.size := by omega
      have hx := HAC.out.at hlt
      have hne : (((chars[b.size - 1]'hlt).toNat : Int) != ((b[b.size - 1]'b4).toNat : Int)) = true := by
        have := HHI.out
        rw [bne_iff_ne]; omega
      have hIB : ∀ a c (W : World), Calls Tryd.prog 135 #[.string (chars.extract a c), .int .u8 (b[b.size - 1]'b4).toNat] W fun e w' => e = .returned (.int .i64 (-1)) ∧ w' = W := fun a c W =>
        (Tryd.strings_IndexByte _ _ W).mono fun e w' ⟨h1, h2⟩ => ⟨by rw [h1]; simp only [Int.toNat_natCast, Nat.toUInt8]; rw [UInt8.ofNat_toNat, HAC.out.none HHI.out], h2⟩
      have HIB := Lib.hid hIB
      clear hIB hx
      go_wp2_with fail
      go_step3
      go_wp2_with fail
      go_quiet (fail)
      go_wp2_with fail
      have e1 : IntKind.i64.wrap (b.size : Int) = (b.size : Int) := IntWalk.i64_in _ (by omega)
      obtain ⟨W2, hW2⟩ : ∃ W2, W2 = wr.drewN nq := ⟨_, rfl⟩
      have HB2 : Hid (Below wr.heap.size wr W2) := Lib.hid (by rw [hW2]; exact ⟨rfl, rfl, rfl, Nat.le_refl _, fun _ _ => rfl⟩)
      rw [← hW2]
      clear hW2
      have e2 : b.size ≤ chars.size := by omega
      go_quiet ((go_at_call 135; exact Calls.quiet_of_same (HIB.out _ _ _)))
      clear e1
      go_wp2_with fail
      simp (config := { zetaDelta := true }) only [Exit.noGoto, Exit.inBlock, Exit.then]
      go_ret
      exact ⟨rfl, ⟨HB2.out.os, HB2.out.tape, HB2.out.output, HB2.out.size, HB2.out.block⟩⟩
    · have p1 : ¬ (b.size : Int) - 1 < chars.size := by omega
      have p2 : decide ((b.size : Int) - 1 < chars.size) = false := by simp; omega
      go_wp2_with fail
      try rw [Exit.noGoto_ret]
      go_ret
      exact ⟨rfl, Below.refl _ _⟩

/-- A set of two ASCII bytes or more. -/
def anyOf (s chars : ByteArray) : Int := Lib.indexAny s.data.toList chars.data.toList
theorem noAny_wide {s chars : ByteArray} (hac : Ascii chars) {i n : Nat} (h : Lib.NoAny s.data.toList chars.data.toList i) (hn : ∀ k, k < n → i + k < s.size ∧ 128 ≤ (s.get! (i + k)).toNat) : Lib.NoAny s.data.toList chars.data.toList (i + n) := by
  intro j b hj hb
  by_cases h1 : j < i
  · exact h j b h1 hb
  · obtain ⟨k, rfl⟩ : ∃ k, j = i + k := ⟨j - i, by omega⟩
    obtain ⟨h2, h3⟩ := hn k (by omega)
    have e : s.get! (i + k) = b := by
      have h4 := Lib.data_getElem? s (i + k) h2
      rw [hb] at h4
      rw [Option.some.inj h4]
      show s.data[i + k]! = _
      rw [getElem!_pos s.data (i + k) h2]; rfl
    rw [e] at h3
    cases hc : chars.data.toList.contains b with
    | false => rfl
    | true =>
      obtain ⟨m, hm, e2⟩ := List.getElem_of_mem (List.contains_iff_mem.1 hc)
      have := hac m b (by rw [List.getElem?_eq_getElem hm, e2])
      omega

theorem next_end {P : Program} {w : World} {s : ByteArray} {b pos : Nat} (ty : TypeId) (hb : w.heap[b]? = some (.stringIter s pos)) (h : ¬ pos < s.size) :
    (Instr.next (.pointer (some ⟨b, 0, none⟩)) true ty).run P w = .ok (.tuple #[.bool false]) w := by
  simp [Instr.next, getObj, Sem.run, hb, h]
/-- The iterator moved on. -/
def stepped (w : World) (b : Nat) (s : ByteArray) (pos : Nat) : World := { w with heap := w.heap.setIfInBounds b (.stringIter s pos) }
theorem next_any {P : Program} {w : World} {s : ByteArray} {b pos : Nat} (ty : TypeId) (hb : w.heap[b]? = some (.stringIter s pos)) (h : pos < s.size) :
    (Instr.next (.pointer (some ⟨b, 0, none⟩)) true ty).run P w = .ok (.tuple #[.bool true, .int .i64 pos, .int .i32 (Utf8.decode s pos).1]) (stepped w b s (pos + (Utf8.decode s pos).2)) := by
  simp only [Instr.next, getObj, setObj, Sem.run_bind, Sem.run, hb, Result.andThen, h, if_true]
  simp [goInt, stepped]
theorem stepped_heap {w : World} {s : ByteArray} {b : Nat} {o : Obj} (pos : Nat) (hb : w.heap[b]? = some o) : (stepped w b s pos).heap[b]? = some (.stringIter s pos) := by
  have : b < w.heap.size := (Array.getElem?_eq_some_iff.1 hb).1
  simp [stepped, this]
theorem stepped_below (w : World) (b : Nat) (s : ByteArray) (pos : Nat) : Below b w (stepped w b s pos) :=
  ⟨rfl, rfl, rfl, by simp [stepped], fun k hk => by simp [stepped, Array.getElem?_setIfInBounds]; intro h; omega⟩

set_option maxHeartbeats 8000000 in
set_option maxRecDepth 1000000 in
theorem indexAny_short (s chars : ByteArray) (w : World) (h2 : 2 ≤ chars.size) (h8 : s.size ≤ 8) (hsz : chars.size ≤ 1000) (hac : Ascii chars) :
    Calls Tryd.prog 125 #[.string s, .string chars] w fun e w' => e = .returned (.int .i64 (anyOf s chars)) ∧ Below w.heap.size w w' := by
  have HA := Lib.hid hac
  clear hac
  have hemp : chars.toList.isEmpty = false := str_nonEmpty (by omega)
  have hn1 : ((chars.size : Int) == 1) = false := beq_eq_false_iff_ne.2 (by omega)
  have h8z : decide ((8 : Int) < (s.size : Int)) = false := decide_eq_false (by omega)
  go_enter Tryd.func125, Tryd.ntmps125
  go_wp2_with (go_at_call 132; refine (Tryd.strings_shouldUseASCIISet _ _).mono ?_; rintro e w' ⟨rfl, hw⟩; rw [hw, h8z])
  go_loopg [9, 10] s.size (fun g _ _ wx => ∃ i p : Nat, i + g = s.size ∧ Hid (Below w.heap.size w wx ∧ wx.heap[w.heap.size]? = some (.stringIter s i)) ∧ p = 0 ∧ Hid (Lib.NoAny s.data.toList chars.data.toList i))
  case atStart => exact ⟨0, 0, by omega, Lib.hid ⟨(Below.refl _ _).alloc (Nat.le_refl _) _, World.iter_heap _ _ _⟩, rfl, Lib.hid (Lib.NoAny.zero _ _)⟩
  case round =>
    obtain ⟨i, p, hig, hw, rfl, HN⟩ := hrel
    cases gk with
    | zero =>
      obtain rfl : i = s.size := by omega
      have hnx := fun ty => next_end (P := Tryd.prog) (w := wr) ty hw.out.2 (Nat.lt_irrefl _)
      go_wp2_with fail
      go_ret
      exact ⟨by unfold anyOf; rw [Lib.indexAny_none (by rw [← Lib.size_eq]; exact HN.out)]; rfl, hw.out.1⟩
    | succ g =>
      have hi : i < s.size := by omega
      obtain ⟨hbw, hpw⟩ := hw.out
      by_cases h128 : (s[i]'hi).toNat < 128
      · have hd := decode_ascii s i hi h128
        have hnx := fun ty => next_any (P := Tryd.prog) (w := wr) ty hpw hi
        rw [hd] at hnx
        simp only at hnx
        obtain ⟨x, hx⟩ : ∃ x : UInt8, s[i]'hi = x := ⟨_, rfl⟩
        have hxl : s.data.toList[i]? = some x := by rw [← hx]; exact Lib.data_getElem? s i hi
        rw [hx] at hnx h128
        have Hx := Lib.hid hxl
        have hcon := Lib.contains_iff_indexByte chars.data.toList x
        have hback : ((x.toNat : Int)).toNat.toUInt8 = x := by simp
        have HBW : Hid (Below w.heap.size w (stepped wr w.heap.size s (i + 1)) ∧ (stepped wr w.heap.size s (i + 1)).heap[w.heap.size]? = some (.stringIter s (i + 1))) :=
          Lib.hid ⟨hbw.trans (stepped_below _ _ _ _), stepped_heap _ hpw⟩
        have hr1 : (0 : Int) ≤ (x.toNat : Int) := by omega
        have hr2 : (x.toNat : Int) < 128 := by omega
        clear hd hx hxl hbw hpw hw h128
        cases hin : chars.data.toList.contains x
        · rw [hin] at hcon
          have hlt : ¬ ((0 : Int) ≤ Lib.indexByte chars.data.toList x) := of_decide_eq_false hcon.symm
          have HIN := Lib.hid hin
          clear hcon hin
          go_wp2_with (go_at_call 131; refine (Tryd.strings_IndexRune_ascii _ _ _ hr1 hr2).mono ?_; rintro e w' ⟨rfl, rfl⟩; rw [hback])
          go_roundg g
          case measure => omega
          case rel => exact ⟨i + 1, 0, by omega, HBW, rfl, Lib.hid (HN.out.succ Hx.out HIN.out)⟩
        · rw [hin] at hcon
          have hge : (0 : Int) ≤ Lib.indexByte chars.data.toList x := of_decide_eq_true hcon.symm
          have HIN := Lib.hid hin
          clear hcon hin
          go_wp2_with (go_at_call 131; refine (Tryd.strings_IndexRune_ascii _ _ _ hr1 hr2).mono ?_; rintro e w' ⟨rfl, rfl⟩; rw [hback])
          go_ret
          exact ⟨by unfold anyOf; rw [Lib.indexAny_hit HN.out Hx.out HIN.out]; rfl, HBW.out.1⟩
      · obtain ⟨d1, d2, d3, d4, d5⟩ := decode_wide s i hi (by omega)
        have hnx := fun ty => next_any (P := Tryd.prog) (w := wr) ty hpw hi
        obtain ⟨c, hc⟩ : ∃ c, c = (Utf8.decode s i).1 := ⟨_, rfl⟩
        obtain ⟨n, hn⟩ : ∃ n, n = (Utf8.decode s i).2 := ⟨_, rfl⟩
        rw [← hc] at hnx d3 d4 d5
        rw [← hn] at hnx d1 d2
        have hle : i + n ≤ s.size := by have := (d2 (n - 1) (by omega)).1; omega
        have HBW : Hid (Below w.heap.size w (stepped wr w.heap.size s (i + n)) ∧ (stepped wr w.heap.size s (i + n)).heap[w.heap.size]? = some (.stringIter s (i + n))) :=
          Lib.hid ⟨hbw.trans (stepped_below _ _ _ _), stepped_heap _ hpw⟩
        have HNN : Hid (Lib.NoAny s.data.toList chars.data.toList (i + n)) := Lib.hid (noAny_wide HA.out HN.out d2)
        have hrune : ∀ W : World, Calls Tryd.prog 131 #[.string chars, .int .i32 c] W fun e w' => e = .returned (.int .i64 (-1)) ∧ Below W.heap.size W w' := by
          intro W
          by_cases h1 : c = 65533
          · rw [h1]; exact indexRune_error chars W HA.out hsz
          · exact indexRune_wide chars c W HA.out hsz (by omega) (by rcases d4 with h | h; exact absurd h h1; exact h) (by omega)
        have HRUNE := Lib.hid hrune
        have hsz2 : (stepped wr w.heap.size s (i + n)).heap.size = wr.heap.size := by simp [stepped]
        have hbz := hbw.size
        have hlt : w.heap.size < wr.heap.size := (Array.getElem?_eq_some_iff.1 hpw).1
        have HSZ := Lib.hid hsz2
        clear hc hn d2 d4 hbw hpw hw h128 hrune hsz2
        go_wp2_with (go_at_call 131; refine (HRUNE.out _).mono ?_; rintro e w' ⟨rfl, hb'⟩)
        have HB' : Hid (Below w.heap.size w w' ∧ w'.heap[w.heap.size]? = some (.stringIter s (i + n))) :=
          Lib.hid ⟨HBW.out.1.trans (hb'.mono (by rw [HSZ.out]; omega)), (hb'.block _ (by rw [HSZ.out]; omega)).trans HBW.out.2⟩
        clear hb'
        go_roundg (s.size - (i + n))
        case measure => omega
        case rel => exact ⟨i + n, 0, by omega, HB', rfl, HNN⟩

theorem zero_ascii : ∀ w, (zeroValue 182).run Tryd.prog w = .ok (.agg (Array.replicate 256 (.bool false))) w :=
  (zero_of_info (P := Tryd.prog) (t := 182) (v := .agg (Array.replicate 256 (.bool false))) (n := 256) (by kernel_rfl)).1
/-- strings.IndexAny, of whatever bytes, at a set of two ASCII bytes or more. -/
theorem indexAny_any (s chars : ByteArray) (w : World) (hs : s.size ≤ 4000000000) (h2 : 2 ≤ chars.size) (hsz : chars.size ≤ 1000) (hac : Ascii chars) :
    Calls Tryd.prog 125 #[.string s, .string chars] w fun e w' => e = .returned (.int .i64 (anyOf s chars)) ∧ Below w.heap.size w w' := by
  by_cases h8 : s.size ≤ 8
  · exact indexAny_short s chars w h2 h8 hsz hac
  · refine (Tryd.strings_IndexAny_long zero_ascii s chars w h2 (by omega) (by omega) (by omega) hac).mono fun e w' ⟨h1, h3⟩ => ⟨h1, ?_⟩
    rw [h3]
    exact ((Below.refl _ _).alloc (Nat.le_refl _) _).alloc (by simp) _
theorem containsAny_any (s chars : ByteArray) (w : World) (hs : s.size ≤ 4000000000) (h2 : 2 ≤ chars.size) (hsz : chars.size ≤ 1000) (hac : Ascii chars) :
    Calls Tryd.prog 107 #[.string s, .string chars] w fun e w' => e = .returned (.bool (decide (0 ≤ anyOf s chars))) ∧ Below w.heap.size w w' := by
  have c := indexAny_any s chars w hs h2 hsz hac
  obtain ⟨n, hn⟩ : ∃ n, n = anyOf s chars := ⟨_, rfl⟩
  rw [← hn] at c ⊢
  clear hn
  go_enter Tryd.func107, Tryd.ntmps107
  go_wp2_with (go_at_call 125; refine c.mono ?_; rintro e w' ⟨rfl, hw⟩)
  go_ret
  exact ⟨rfl, hw⟩

theorem indexAny_pos (chars : List UInt8) : ∀ l : List UInt8, 0 ≤ Lib.indexAny l chars ↔ l.any (fun c => chars.contains c) = true
  | [] => by simp [Lib.indexAny]
  | c :: l => by
    have ih := indexAny_pos chars l
    have hg := Lib.indexAny_ge chars l
    unfold Lib.indexAny
    rw [List.any_cons]
    by_cases h : chars.contains c = true
    · simp only [h, if_true, Bool.true_or, iff_true]; decide
    · have h' : chars.contains c = false := by simpa using h
      rw [if_neg h, h', Bool.false_or, ← ih]
      by_cases h1 : (Lib.indexAny l chars == -1) = true
      · rw [if_pos h1]
        have : Lib.indexAny l chars = -1 := by simpa using h1
        rw [this]
      · rw [if_neg h1]
        have : Lib.indexAny l chars ≠ -1 := by simpa using h1
        omega

/-! ### lowByte -/
def lowR (r : Nat) : Bool := decide (r < 32 ∨ r = 127)
def lowB (c : UInt8) : Bool := !decide (32 ≤ (c.toNat : Int) ∧ (c.toNat : Int) ≠ 127)
theorem lowB_wide {c : UInt8} (h : 128 ≤ c.toNat) : lowB c = false := by unfold lowB; rw [decide_eq_true (by omega)]; rfl
theorem lowB_small {c : UInt8} : lowB c = lowR c.toNat := by
  unfold lowB lowR
  rw [Bool.eq_iff_iff]
  simp
  omega
theorem byte_at {s : ByteArray} {k : Nat} (h : k < s.size) : s.data.toList[k]? = some s[k] := by
  rw [ByteArray.getElem_eq_getElem_data, ← Array.getElem_toList, List.getElem?_eq_getElem]
theorem drop_any {s : ByteArray} {p n : Nat} (h : p + n ≤ s.size) (hn : ∀ k, k < n → 128 ≤ (s.get! (p + k)).toNat) : (s.data.toList.drop p).any lowB = (s.data.toList.drop (p + n)).any lowB := by
  induction n with
  | zero => rfl
  | succ n ih =>
    rw [ih (by omega) (fun k hk => hn k (by omega))]
    have hp : p + n < s.size := by omega
    have hl : p + n < s.data.toList.length := by rw [← sizeL]; exact hp
    have hb := hn n (by omega)
    rw [List.drop_eq_getElem_cons hl, List.any_cons]
    have e : s.data.toList[p + n] = s[p + n] := by
      have := byte_at hp
      rw [List.getElem?_eq_getElem hl] at this
      exact Option.some.inj this
    have e2 : s.get! (p + n) = s[p + n] := get_at s (p + n) hp
    rw [e, lowB_wide (by rw [← e2]; exact hb), Bool.false_or]
    rfl
theorem idx_low (s : ByteArray) : ∀ (f p : Nat), s.size - p ≤ f → p ≤ s.size → decide (0 ≤ Lib.idxFuncFrom lowR true s f p) = (s.data.toList.drop p).any lowB
  | 0, p, h, hp => by
    have : p = s.size := by omega
    subst this
    rw [sizeL, List.drop_length]
    rfl
  | f + 1, p, h, hp => by
    unfold Lib.idxFuncFrom
    by_cases hlt : p < s.size
    · rw [if_pos hlt]
      have hl : p < s.data.toList.length := by rw [← sizeL]; exact hlt
      have e : s.data.toList[p] = s[p] := by
        have := byte_at hlt
        rw [List.getElem?_eq_getElem hl] at this
        exact Option.some.inj this
      by_cases ha : (s[p]).toNat < 128
      · have hd : Utf8.decode s p = ((s[p]).toNat, 1) := by
          have hg : s.get! p = s[p] := get_at s p hlt
          have h2 : (s.get! (p + 0)).toNat < 128 := by rw [Nat.add_zero, hg]; exact ha
          exact (if_pos h2).trans (by show ((s.get! p).toNat, 1) = _; rw [hg])
        rw [hd]
        simp only
        rw [List.drop_eq_getElem_cons hl, List.any_cons, e, lowB_small]
        cases hr : lowR (s[p]).toNat with
        | true => rw [if_pos rfl]; simp
        | false =>
          rw [if_neg (by simp), idx_low s f (p + 1) (by omega) (by omega)]
          rfl
      · obtain ⟨d1, d2, d3, d4, d5⟩ := decode_wide s p hlt (by omega)
        have hr : lowR (Utf8.decode s p).1 = false := by unfold lowR; rw [decide_eq_false (by omega)]
        rw [hr, if_neg (by simp)]
        have hle : p + (Utf8.decode s p).2 ≤ s.size := by
          have := d2 ((Utf8.decode s p).2 - 1) (by omega)
          omega
        rw [idx_low s f _ (by omega) hle, drop_any hle (fun k hk => (d2 k hk).2)]
    · rw [if_neg hlt]
      have : p = s.size := by omega
      subst this
      rw [sizeL, List.drop_length]
      rfl
theorem low_all (s : ByteArray) : decide (0 ≤ Lib.idxFunc lowR true s) = ctlB s := by
  unfold Lib.idxFunc
  rw [idx_low s s.size 0 (by omega) (by omega), List.drop_zero]
  rfl
end Go.Proofs.YtfpiannnggkdiaaDoor
namespace Go.Proofs.YtfpiannnggkdiaaDoor
open Go.RowKit Go.Shelf

theorem ctl_eq (s : ByteArray) : ctl s = ctlB s := rfl
/-! ### Trim at a space -/
def isSp (c : UInt8) : Bool := ([32] : List UInt8).contains c
theorem isSp_iff (c : UInt8) : isSp c = true ↔ c = 32 := by simp [isSp]
theorem drop_len (l : List UInt8) : (l.dropWhile isSp).length ≤ l.length := (List.dropWhile_sublist _).length_le
theorem drop_head {l : List UInt8} (h : l.head? = some 32) : (l.dropWhile isSp).length < l.length := by
  cases l with
  | nil => cases h
  | cons c l =>
    simp at h
    subst h
    rw [List.dropWhile_cons, if_pos (by decide)]
    have := drop_len l
    simp; omega
theorem drop_keep {l : List UInt8} (h : l.head? ≠ some 32) : l.dropWhile isSp = l := by
  cases l with
  | nil => rfl
  | cons c l =>
    rw [List.dropWhile_cons, if_neg]
    intro e
    exact h (by rw [(isSp_iff c).1 e]; rfl)
theorem trim_edge (l : List UInt8) : Lib.trimS l [32] = l ↔ edgeB l = false := by
  have e : Lib.trimS l [32] = ((l.reverse.dropWhile isSp).reverse).dropWhile isSp := rfl
  rw [e]
  unfold edgeB
  by_cases h2 : l.getLast? = some 32
  · have h3 : l.reverse.head? = some 32 := by rw [List.head?_reverse]; exact h2
    have h4 := drop_head h3
    have h5 := drop_len (l.reverse.dropWhile isSp).reverse
    constructor
    · intro h
      have := congrArg List.length h
      simp at h4 h5
      omega
    · intro h; rw [h2] at h; simp at h
  · have h3 : l.reverse.head? ≠ some 32 := by rw [List.head?_reverse]; exact h2
    rw [drop_keep h3, List.reverse_reverse]
    by_cases h1 : l.head? = some 32
    · have h4 := drop_head h1
      constructor
      · intro h
        have := congrArg List.length h
        omega
      · intro h; rw [h1] at h; simp at h
    · rw [drop_keep h1]
      simp [h1, h2]
def brSet : ByteArray := ⟨#[91, 93, 124]⟩
theorem br_any (s : ByteArray) : decide (0 ≤ anyOf s brSet) = s.data.toList.any brB := by
  have h := indexAny_pos brSet.data.toList s.data.toList
  have e : (fun c => brSet.data.toList.contains c) = brB := by
    funext c
    have h : ∀ n : Fin 256, brSet.data.toList.contains (UInt8.ofNat n.val) = brB (UInt8.ofNat n.val) := by decide +kernel
    have := h ⟨c.toNat, c.toNat_lt⟩
    simpa using this
  rw [e] at h
  unfold anyOf
  rw [Bool.eq_iff_iff, decide_eq_true_iff]
  exact h
theorem brSet_ascii : Ascii brSet := by
  intro j b hb
  have hm := List.mem_of_getElem? hb
  have h : ∀ b ∈ brSet.data.toList, b.toNat < 128 := by decide
  exact h b hm
theorem containsBr_any (s : ByteArray) (w : World) (hs : s.size ≤ 4000000000) :
    Calls Tryd.prog 107 #[.string s, .string ⟨#[91, 93, 124]⟩] w (Quiet w (.bool (s.data.toList.any brB))) := by
  have h := containsAny_any s brSet w hs (by decide) (by decide) brSet_ascii
  rw [br_any] at h
  exact h
theorem trimSp_any (s : ByteArray) (w : World) (hs : s.size ≤ 4000000000) : ∃ T : ByteArray, (edgeB s.data.toList = false → T = s) ∧ (edgeB s.data.toList = true → ¬ s.toList = T.toList ∧ ¬ T.toList = s.toList) ∧
    ∀ W, Calls Tryd.prog 106 #[.string s, .string ⟨#[32]⟩] W (Quiet W (.string T)) := by
  refine ⟨⟨(Lib.trimS s.data.toList [32]).toArray⟩, ?_, ?_, ?_⟩
  · intro h
    rw [(trim_edge _).2 h]
  · intro h
    have hne : ¬ Lib.trimS s.data.toList [32] = s.data.toList := fun e => by rw [(trim_edge _).1 e] at h; cases h
    constructor
    · intro e
      rw [ByteArray.toList_eq, ByteArray.toList_eq] at e
      exact hne e.symm
    · intro e
      rw [ByteArray.toList_eq, ByteArray.toList_eq] at e
      exact hne e
  · intro W
    exact trim_any s ⟨#[32]⟩ W (by omega) (by decide) (by
      intro j b hb
      have hm := List.mem_of_getElem? hb
      have h : ∀ b ∈ (⟨#[32]⟩ : ByteArray).data.toList, b.toNat < 128 := by decide
      exact h b hm)

set_option maxRecDepth 100000 in
set_option maxHeartbeats 4000000 in
theorem checkTitle_any (s : ByteArray) (w : World) (hs : s.size ≤ 1048576) : Calls Tryd.prog 87 #[.string s] w (Quiet w (.int .i64 (titleE s))) := by
  by_cases h1 : 100 < s.size
  · have HE : Hid (titleE s = 4) := Lib.hid (by unfold titleE; rw [if_pos h1])
    have p1 : (100 : Int) < s.size := by omega
    clear h1
    go_enter Tryd.func87, Tryd.ntmps87
    go_wp2
    go_ret
    exact ⟨ret_int HE.out.symm, Below.refl _ _⟩
  · have p1 : ¬ (100 : Int) < s.size := by omega
    have HK := Lib.hid (fun W => check_any s W (by omega))
    rcases hc : ctl s with _ | _
    · have hv : checkV s = 0 := by unfold checkV; rw [if_neg (by omega), if_neg (by simp [hc])]
      rw [hv] at HK
      by_cases h0 : s.size = 0
      · have z1 := str_empty h0
        have z2 := str_isEmpty h0
        have HE : Hid (titleE s = 1) := Lib.hid (by unfold titleE; rw [if_neg h1, if_neg (by rw [← ctl_eq, hc]; simp), if_pos (.inl h0)])
        clear h0 hv hc
        go_enter Tryd.func87, Tryd.ntmps87
        go_wp2_with fail
        refine (HK.out _).mono ?_
        rintro e1 w1 ⟨rfl, hw⟩
        rw [hw]
        clear hw
        go_wp2_with fail
        go_ret
        exact ⟨ret_int HE.out.symm, Below.refl _ _⟩
      · have z1 := str_full (by omega : 0 < s.size)
        have z2 := str_nonEmpty (by omega : 0 < s.size)
        obtain ⟨T, hT1, hT2, hT3⟩ := trimSp_any s w (by omega)
        have HT := Lib.hid hT3
        rcases he : edgeB s.data.toList with _ | _
        · obtain rfl := hT1 he
          have HA := Lib.hid (fun W => containsBr_any T W (by omega))
          rcases hb : T.data.toList.any brB with _ | _
          · have HE : Hid (titleE T = 0) := Lib.hid (by unfold titleE; rw [if_neg h1, if_neg (by rw [← ctl_eq, hc]; simp), if_neg (by rintro (h | h | h); exact h0 h; rw [he] at h; cases h; rw [hb] at h; cases h)])
            rw [hb] at HA
            clear hT1 hT2 hT3 hv hc he hb
            go_enter Tryd.func87, Tryd.ntmps87
            go_wp2_with fail
            refine (HK.out _).mono ?_
            rintro e1 w1 ⟨rfl, hw⟩
            rw [hw]
            clear hw
            go_wp2_with fail
            refine (HT.out _).mono ?_
            rintro e2 w2 ⟨rfl, hb2⟩
            have HB2 := Lib.hid hb2
            clear hb2
            go_wp2_with fail
            refine (HA.out _).mono ?_
            rintro e3 w3 ⟨rfl, hb3⟩
            have HB3 := Lib.hid (HB2.out.trans (hb3.mono HB2.out.size))
            clear hb3
            go_wp2_with fail
            go_ret
            exact ⟨ret_int HE.out.symm, HB3.out⟩
          · have HE : Hid (titleE T = 1) := Lib.hid (by unfold titleE; rw [if_neg h1, if_neg (by rw [← ctl_eq, hc]; simp), if_pos (.inr (.inr hb))])
            rw [hb] at HA
            clear hT1 hT2 hT3 hv hc he hb
            go_enter Tryd.func87, Tryd.ntmps87
            go_wp2_with fail
            refine (HK.out _).mono ?_
            rintro e1 w1 ⟨rfl, hw⟩
            rw [hw]
            clear hw
            go_wp2_with fail
            refine (HT.out _).mono ?_
            rintro e2 w2 ⟨rfl, hb2⟩
            have HB2 := Lib.hid hb2
            clear hb2
            go_wp2_with fail
            refine (HA.out _).mono ?_
            rintro e3 w3 ⟨rfl, hb3⟩
            have HB3 := Lib.hid (HB2.out.trans (hb3.mono HB2.out.size))
            clear hb3
            go_wp2_with fail
            go_ret
            exact ⟨ret_int HE.out.symm, HB3.out⟩
        · obtain ⟨d1, d2⟩ := hT2 he
          have HE : Hid (titleE s = 1) := Lib.hid (by unfold titleE; rw [if_neg h1, if_neg (by rw [← ctl_eq, hc]; simp), if_pos (.inr (.inl he))])
          clear hT1 hT2 hT3 hv hc he
          go_enter Tryd.func87, Tryd.ntmps87
          go_wp2_with fail
          refine (HK.out _).mono ?_
          rintro e1 w1 ⟨rfl, hw⟩
          rw [hw]
          clear hw
          go_wp2_with fail
          refine (HT.out _).mono ?_
          rintro e2 w2 ⟨rfl, hb2⟩
          have HB2 := Lib.hid hb2
          clear hb2
          go_wp2_with fail
          go_ret
          exact ⟨ret_int HE.out.symm, HB2.out⟩
    · have hv : checkV s = 9 := by unfold checkV; rw [if_neg (by omega), if_pos hc]
      rw [hv] at HK
      have HE : Hid (titleE s = 9) := Lib.hid (by unfold titleE; rw [if_neg h1, if_pos (by rw [← ctl_eq, hc])])
      clear hv hc
      go_enter Tryd.func87, Tryd.ntmps87
      go_wp2_with fail
      refine (HK.out _).mono ?_
      rintro e1 w1 ⟨rfl, hw⟩
      rw [hw]
      clear hw
      go_wp2_with fail
      go_ret
      exact ⟨ret_int HE.out.symm, Below.refl _ _⟩

set_option maxHeartbeats 1000000 in
theorem checkRange_any (n a b : Int) (w : World) : Calls Tryd.prog 84 #[.int .i64 n, .int .i64 a, .int .i64 b] w fun e w' => e = .returned (.int .i64 (rangeE n a b)) ∧ w' = w := by
  by_cases h1 : n < a
  · have HE : Hid (rangeE n a b = 2) := Lib.hid (rangeE_out (by omega))
    go_enter Tryd.func84, Tryd.ntmps84
    go_wp2
    go_ret
    exact ⟨ret_int HE.out.symm, rfl⟩
  · by_cases h2 : b < n
    · have HE : Hid (rangeE n a b = 2) := Lib.hid (rangeE_out (by omega))
      go_enter Tryd.func84, Tryd.ntmps84
      go_wp2
      go_ret
      exact ⟨ret_int HE.out.symm, rfl⟩
    · have HE : Hid (rangeE n a b = 0) := Lib.hid (rangeE_in (by omega))
      go_enter Tryd.func84, Tryd.ntmps84
      go_wp2
      go_ret
      exact ⟨ret_int HE.out.symm, rfl⟩
set_option maxHeartbeats 1000000 in
theorem isDay_any (n : Int) (w : World) : Calls Tryd.prog 104 #[.int .i64 n] w fun e w' => e = .returned (.bool (inR n 0 100000)) ∧ w' = w := by
  go_enter Tryd.func104, Tryd.ntmps104
  go_wp2
  all_goals go_ret
  all_goals refine ⟨ret_bool ?_, rfl⟩
  all_goals rw [Bool.eq_iff_iff]
  all_goals simp [inR]
  all_goals omega
set_option maxHeartbeats 1000000 in
theorem refIsDay_any (n : Int) (w : World) : Calls Tryd.prog 20 #[.int .i64 n] w fun e w' => e = .returned (.bool (inR n 0 100000)) ∧ w' = w := by
  go_enter Tryd.func20, Tryd.ntmps20
  go_wp2
  all_goals go_ret
  all_goals refine ⟨ret_bool ?_, rfl⟩
  all_goals rw [Bool.eq_iff_iff]
  all_goals simp [inR]
  all_goals omega
set_option maxHeartbeats 1000000 in
theorem isKind_any (n : Int) (w : World) : Calls Tryd.prog 82 #[.int .i64 n] w fun e w' => e = .returned (.bool (inR n 0 7)) ∧ w' = w := by
  go_enter Tryd.func82, Tryd.ntmps82
  go_wp2
  all_goals go_ret
  all_goals refine ⟨ret_bool ?_, rfl⟩
  all_goals rw [Bool.eq_iff_iff]
  all_goals simp [inR]
  all_goals omega
end Go.Proofs.YtfpiannnggkdiaaDoor
