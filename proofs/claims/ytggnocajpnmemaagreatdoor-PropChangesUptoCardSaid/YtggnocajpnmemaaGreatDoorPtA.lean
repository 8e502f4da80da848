/- Properties: names. CheckName, and the reference's IsName. -/
import Derived.Test.YtggnocajpnmemaaGreatDoorOlB
import Derived.Test.YtggnocajpnmemaaGreatDoorAlX
import Derived.Test.YtggnocajpnmemaaGreatDoorShelfP
import Derived.Shelf.Strings.SlTrimAscii
import Derived.WalkKit
import Derived.Lib.Hide
import Derived.Outline
import Derived.Below
import Derived.Deep.QuietTactic
import Derived.BigQuiet
namespace Go.Proofs.YtggnocajpnmemaaGreatDoor
open Go.RowKit Go.Shelf

def pLetter (c : UInt8) : Bool := decide (97 ≤ (c.toNat : Int) ∧ (c.toNat : Int) ≤ 122)
def pDigit (c : UInt8) : Bool := decide (48 ≤ (c.toNat : Int) ∧ (c.toNat : Int) ≤ 57)
def pName (c : UInt8) : Bool := pLetter c || pDigit c || decide ((c.toNat : Int) = 45)
def nameOk (s : ByteArray) : Bool := decide (1 ≤ s.size ∧ s.size ≤ 20) && (match s.data.toList with | [] => false | c :: _ => pLetter c) && s.data.toList.all pName

set_option maxHeartbeats 1000000 in
theorem pLetter_any (c : UInt8) (w : World) :
    Calls Tryz.prog 43 #[.int .u8 c.toNat] w fun e w' => e = .returned (.bool (pLetter c)) ∧ w' = w := by
  go_enter Tryz.func43, Tryz.ntmps43
  go_wp2
  all_goals go_ret
  all_goals refine ⟨ret_bool ?_, rfl⟩
  all_goals rw [Bool.eq_iff_iff]
  all_goals simp [pLetter]
  all_goals omega
set_option maxHeartbeats 1000000 in
theorem pDigit_any (c : UInt8) (w : World) :
    Calls Tryz.prog 44 #[.int .u8 c.toNat] w fun e w' => e = .returned (.bool (pDigit c)) ∧ w' = w := by
  go_enter Tryz.func44, Tryz.ntmps44
  go_wp2
  all_goals go_ret
  all_goals refine ⟨ret_bool ?_, rfl⟩
  all_goals rw [Bool.eq_iff_iff]
  all_goals simp [pDigit]
  all_goals omega

theorem head_at {s : ByteArray} (h : 0 < s.size) : (match s.data.toList with | [] => false | c :: _ => pLetter c) = pLetter s[0] := by
  have e : s.data.toList[0]? = some s[0] := by
    rw [ByteArray.getElem_eq_getElem_data, ← Array.getElem_toList, List.getElem?_eq_getElem]
  cases hl : s.data.toList with
  | nil => rw [hl] at e; cases e
  | cons c l => rw [hl] at e; simp at e; rw [e]
theorem nameOk_head {s : ByteArray} (h : 0 < s.size) (h1 : pLetter s[0] = false) : nameOk s = false := by
  unfold nameOk; rw [head_at h, h1]; simp
theorem nameOk_size {s : ByteArray} (h : ¬ (1 ≤ s.size ∧ s.size ≤ 20)) : nameOk s = false := by
  unfold nameOk; rw [decide_eq_false h]; rfl
theorem nameOk_byte {s : ByteArray} {k : Nat} (hk : k < s.size) (h : pName s[k] = false) : nameOk s = false := by
  have : s.data.toList.all pName = false := by rw [List.all_eq_false]; exact ⟨_, mem_at hk, by simp [h]⟩
  unfold nameOk; rw [this, Bool.and_false]
theorem nameOk_yes {s : ByteArray} (h : 1 ≤ s.size ∧ s.size ≤ 20) (h1 : pLetter s[0] = true) (h2 : ∀ j (hj : j < s.size), pName s[j] = true) : nameOk s = true := by
  have : s.data.toList.all pName = true := by
    rw [List.all_eq_true]
    intro c hc
    obtain ⟨j, hj, rfl⟩ := at_mem hc
    exact h2 j hj
  unfold nameOk; rw [decide_eq_true h, head_at (by omega), h1, this]; rfl
def nameE (s : ByteArray) : Int := if nameOk s then 0 else 3

set_option maxRecDepth 100000 in
set_option maxHeartbeats 4000000 in
theorem checkName_any (s : ByteArray) (w : World) (hs : s.size ≤ 9223372036854775807) :
    Calls Tryz.prog 17 #[.string s] w fun e w' => e = .returned (.int .i64 (nameE s)) ∧ w' = w := by
  by_cases h0 : s.size = 0
  · have z1 : s.toList = [] := by rw [ByteArray.toList_eq]; exact List.eq_nil_of_length_eq_zero (by simpa using h0)
    have z2 : s.toList.isEmpty = true := by rw [z1]; rfl
    have HE : Hid (nameE s = 3) := Lib.hid (by unfold nameE; rw [nameOk_size (by omega)]; rfl)
    clear h0
    go_enter Tryz.func17, Tryz.ntmps17
    go_wp2
    go_ret
    exact ⟨ret_int HE.out.symm, rfl⟩
  · have z1 : ¬ s.toList = [] := by
      rw [ByteArray.toList_eq]; intro e; have h1 := congrArg List.length e; rw [← sizeL] at h1; exact h0 h1
    have z2 : s.toList.isEmpty = false := by
      cases he : s.toList.isEmpty with
      | false => rfl
      | true => exact absurd (List.isEmpty_iff.1 he) z1
    have hpos : 0 < s.size := by omega
    have p0 : (0 : Int) < s.size := by omega
    by_cases h1 : 20 < s.size
    · have HE : Hid (nameE s = 3) := Lib.hid (by unfold nameE; rw [nameOk_size (by omega)]; rfl)
      have p1 : (20 : Int) < s.size := by omega
      clear h1
      go_enter Tryz.func17, Tryz.ntmps17
      go_wp2
      go_ret
      exact ⟨ret_int HE.out.symm, rfl⟩
    · have p1 : ¬ (20 : Int) < s.size := by omega
      have HL := Lib.hid (fun W => pLetter_any s[0] W)
      rcases hl : pLetter s[0] with _ | _
      · have HE : Hid (nameE s = 3) := Lib.hid (by unfold nameE; rw [nameOk_head hpos hl]; rfl)
        rw [hl] at HL
        clear hl
        go_enter Tryz.func17, Tryz.ntmps17
        go_wp2_with fail
        refine (HL.out _).mono ?_
        rintro e1 w1 ⟨rfl, hw⟩
        rw [hw]
        clear hw
        go_wp2_with fail
        go_ret
        exact ⟨ret_int HE.out.symm, rfl⟩
      · rw [hl] at HL
        have HL1 := Lib.hid hl
        clear hl
        go_enter Tryz.func17, Tryz.ntmps17
        go_wp2_with fail
        refine (HL.out _).mono ?_
        rintro e1 w1 ⟨rfl, hw⟩
        rw [hw]
        clear hw
        go_wp2_with fail
        go_loop [19] (fun i => ∃ k : Nat, k ≤ s.size ∧ i = .int .i64 k ∧ Hid (∀ j (hj : j < s.size), j < k → pName s[j] = true)) (fun i => s.size - (intOf i).toNat)
        case atStart => exact ⟨0, Nat.zero_le _, rfl, fun j _ hj => by omega⟩
        case round =>
          obtain ⟨k, hk, rfl, hall⟩ := hrel
          by_cases hlt : k < s.size
          · have p2 : (k : Int) < s.size := by omega
            have HLk := Lib.hid (fun W => pLetter_any s[k] W)
            have HDk := Lib.hid (fun W => pDigit_any s[k] W)
            rcases hl : pLetter s[k] with _ | _
            · rw [hl] at HLk
              rcases hd : pDigit s[k] with _ | _
              · rw [hd] at HDk
                by_cases h45 : (s[k].toNat : Int) = 45
                · have HB : Hid (pName s[k] = true) := Lib.hid (by unfold pName; rw [decide_eq_true h45]; simp)
                  have q1 : ((s[k].toNat : Int) != 45) = false := by simpa using h45
                  have q2 : ((s[k].toNat : Int) == 45) = true := by simpa using h45
                  clear hl hd h45
                  go_wp2_with fail
                  refine (HLk.out _).mono ?_
                  rintro e2 w2 ⟨rfl, hw⟩
                  rw [hw]
                  clear hw
                  go_wp2_with fail
                  refine (HDk.out _).mono ?_
                  rintro e3 w3 ⟨rfl, hw⟩
                  rw [hw]
                  clear hw
                  go_wp2_with fail
                  go_round
                  case rel => exact ⟨k + 1, by omega, by go_num, fun j hj hjk => by
                    rcases Nat.lt_succ_iff_lt_or_eq.1 hjk with h | rfl
                    · exact hall.out j hj h
                    · exact HB.out⟩
                  case measure => simp [intOf]; omega
                · have HE : Hid (nameE s = 3) := Lib.hid (by unfold nameE; rw [nameOk_byte hlt (by unfold pName; rw [hl, hd, decide_eq_false h45]; rfl)]; rfl)
                  have q1 : ((s[k].toNat : Int) != 45) = true := by simpa using h45
                  have q2 : ((s[k].toNat : Int) == 45) = false := by simpa using h45
                  clear hl hd h45
                  go_wp2_with fail
                  refine (HLk.out _).mono ?_
                  rintro e2 w2 ⟨rfl, hw⟩
                  rw [hw]
                  clear hw
                  go_wp2_with fail
                  refine (HDk.out _).mono ?_
                  rintro e3 w3 ⟨rfl, hw⟩
                  rw [hw]
                  clear hw
                  go_wp2_with fail
                  go_ret
                  exact ⟨ret_int HE.out.symm, rfl⟩
              · rw [hd] at HDk
                have HB : Hid (pName s[k] = true) := Lib.hid (by unfold pName; rw [hd]; simp)
                clear hl hd
                go_wp2_with fail
                refine (HLk.out _).mono ?_
                rintro e2 w2 ⟨rfl, hw⟩
                rw [hw]
                clear hw
                go_wp2_with fail
                refine (HDk.out _).mono ?_
                rintro e3 w3 ⟨rfl, hw⟩
                rw [hw]
                clear hw
                go_wp2_with fail
                go_round
                case rel => exact ⟨k + 1, by omega, by go_num, fun j hj hjk => by
                  rcases Nat.lt_succ_iff_lt_or_eq.1 hjk with h | rfl
                  · exact hall.out j hj h
                  · exact HB.out⟩
                case measure => simp [intOf]; omega
            · rw [hl] at HLk
              have HB : Hid (pName s[k] = true) := Lib.hid (by unfold pName; rw [hl]; rfl)
              clear hl
              go_wp2_with fail
              refine (HLk.out _).mono ?_
              rintro e2 w2 ⟨rfl, hw⟩
              rw [hw]
              clear hw
              go_wp2_with fail
              go_round
              case rel => exact ⟨k + 1, by omega, by go_num, fun j hj hjk => by
                rcases Nat.lt_succ_iff_lt_or_eq.1 hjk with h | rfl
                · exact hall.out j hj h
                · exact HB.out⟩
              case measure => simp [intOf]; omega
          · have HE : Hid (nameE s = 0) := Lib.hid (by unfold nameE; rw [nameOk_yes (by omega) HL1.out (fun j hj => hall.out j hj (by omega))]; rfl)
            have p2 : ¬ (k : Int) < s.size := by omega
            go_wp2
            go_ret
            exact ⟨ret_int HE.out.symm, rfl⟩

/-! ### IsName -/
def nameSet : ByteArray := ⟨#[97, 98, 99, 100, 101, 102, 103, 104, 105, 106, 107, 108, 109, 110, 111, 112, 113, 114, 115, 116, 117, 118, 119, 120, 121, 122, 48, 49, 50, 51, 52, 53, 54, 55, 56, 57, 45]⟩
theorem set_name (c : UInt8) : nameSet.data.toList.contains c = pName c := by
  have h : ∀ n : Fin 256, nameSet.data.toList.contains (UInt8.ofNat n.val) = pName (UInt8.ofNat n.val) := by decide +kernel
  have := h ⟨c.toNat, c.toNat_lt⟩
  simpa using this
theorem dropWhile_nil {α : Type} (p : α → Bool) : ∀ l : List α, l.dropWhile p = [] ↔ l.all p = true
  | [] => by simp
  | c :: l => by
    have ih := dropWhile_nil p l
    rw [List.dropWhile_cons, List.all_cons]
    cases p c with
    | true => simpa using ih
    | false => simp
theorem trim_nil (l : List UInt8) : (Lib.trimS l nameSet.data.toList).isEmpty = l.all pName := by
  have e : (fun c => nameSet.data.toList.contains c) = pName := funext set_name
  unfold Lib.trimS Lib.trimLeftS Lib.trimRightS
  rw [e]
  rw [Bool.eq_iff_iff, List.isEmpty_iff, dropWhile_nil]
  constructor
  · intro h
    rw [List.all_reverse] at h
    have h2 : (l.reverse.dropWhile pName) = [] := by
      cases hl : l.reverse.dropWhile pName with
      | nil => rfl
      | cons c r =>
        have hc := List.head_dropWhile_not (l := l.reverse) pName (by rw [hl]; simp)
        rw [hl] at h
        simp only [hl, List.head_cons] at hc
        rw [List.all_cons, hc] at h
        cases h
    have h3 := (dropWhile_nil pName _).1 h2
    rwa [List.all_reverse] at h3
  · intro h
    have h2 : l.reverse.dropWhile pName = [] := (dropWhile_nil pName _).2 (by rw [List.all_reverse]; exact h)
    rw [h2]
    rfl
end Go.Proofs.YtggnocajpnmemaaGreatDoor
