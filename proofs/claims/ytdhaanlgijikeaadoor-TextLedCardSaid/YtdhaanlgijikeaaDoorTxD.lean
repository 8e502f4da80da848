/- Package text, part 4: references and tags; the end of a token of a kind. -/
import Derived.Test.YtdhaanlgijikeaaDoorTxC
import Derived.WalkKit
import Derived.Lib.Hide
import Derived.Outline
namespace Go.Proofs.YtdhaanlgijikeaaDoor
open Go.RowKit

/-- The number that digits spell. -/
def decV (l : List UInt8) : Nat := l.foldl (fun n c => n * 10 + (c.toNat - 48)) 0

theorem decFrom_digits : ∀ (l : List UInt8) (acc : Nat), (∀ c ∈ l, cDigit c = true) → Lib.decFrom acc l = some (l.foldl (fun n c => n * 10 + (c.toNat - 48)) acc)
  | [], _, _ => rfl
  | c :: r, acc, h => by
    have hc := h c (by simp)
    unfold cDigit at hc
    simp only [decide_eq_true_eq] at hc
    have hv : Lib.digitVal c = some (c.toNat - 48) := by unfold Lib.digitVal; rw [if_pos (by omega)]
    simp only [Lib.decFrom, hv, List.foldl_cons]
    exact decFrom_digits r _ (fun d hd => h d (by simp [hd]))

theorem atoi_digits (l : List UInt8) (h0 : l ≠ []) (h : ∀ c ∈ l, cDigit c = true) : Lib.atoi l = some ((decV l : Nat) : Int) := by
  match l, h0 with
  | c :: r, _ =>
    have hc := h c (by simp)
    unfold cDigit at hc
    simp only [decide_eq_true_eq] at hc
    have n1 : (c == 45) = false := by
      rw [beq_eq_false_iff_ne]; rintro rfl
      exact absurd hc.1 (by decide)
    have n2 : (c == 43) = false := by
      rw [beq_eq_false_iff_ne]; rintro rfl
      exact absurd hc.1 (by decide)
    unfold Lib.atoi Lib.decNat
    simp only [n1, n2]
    rw [decFrom_digits _ _ h]
    rfl

theorem decV_bound (l : List UInt8) (h : ∀ c ∈ l, cDigit c = true) : decV l < 10 ^ l.length := by
  unfold decV
  have key : ∀ (l : List UInt8) (acc : Nat), (∀ c ∈ l, cDigit c = true) → l.foldl (fun n c => n * 10 + (c.toNat - 48)) acc < (acc + 1) * 10 ^ l.length := by
    intro l
    induction l with
    | nil => intro acc _; simp
    | cons c r ih =>
      intro acc h
      have hc := h c (by simp)
      unfold cDigit at hc
      simp only [decide_eq_true_eq] at hc
      have h1 := ih (acc * 10 + (c.toNat - 48)) (fun d hd => h d (by simp [hd]))
      simp only [List.foldl_cons, List.length_cons]
      have h2 : acc * 10 + (c.toNat - 48) + 1 ≤ (acc + 1) * 10 := by omega
      calc _ < (acc * 10 + (c.toNat - 48) + 1) * 10 ^ r.length := h1
        _ ≤ ((acc + 1) * 10) * 10 ^ r.length := Nat.mul_le_mul_right _ h2
        _ = (acc + 1) * 10 ^ (r.length + 1) := by rw [Nat.pow_succ, Nat.mul_assoc, Nat.mul_comm 10]
  simpa using key l 0 h

def refIdN (t : ByteArray) : Nat := if t.size = 0 ∨ 7 < t.size ∨ bAt t 0 = 48 ∨ 1000000 < decV t.data.toList then 0 else decV t.data.toList
theorem refIdN_no {t : ByteArray} (h : t.size = 0 ∨ 7 < t.size ∨ bAt t 0 = 48 ∨ 1000000 < decV t.data.toList) : refIdN t = 0 := by unfold refIdN; rw [if_pos h]
theorem refIdN_yes {t : ByteArray} (h : ¬ (t.size = 0 ∨ 7 < t.size ∨ bAt t 0 = 48 ∨ 1000000 < decV t.data.toList)) : refIdN t = decV t.data.toList := by unfold refIdN; rw [if_neg h]
theorem refIdN_le (t : ByteArray) : refIdN t ≤ 1000000 := by unfold refIdN; split <;> omega

theorem bytes_below (w : World) (e : TypeId) (u : ByteArray) : Below w.heap.size w (Lib.bytesWorld w e u) :=
  ⟨rfl, rfl, rfl, by rw [Lib.bytesWorld_size]; omega, fun k hk => Lib.bytesWorld_at_old _ _ _ _ hk⟩
theorem mem_while (cls : UInt8 → Bool) : ∀ (l : List UInt8) (c : UInt8), c ∈ l.takeWhile cls → cls c = true
  | [], _, h => by simp at h
  | x :: r, c, h => by
    rw [List.takeWhile_cons] at h
    by_cases hx : cls x = true
    · rw [if_pos hx] at h
      rcases List.mem_cons.1 h with rfl | h
      · exact hx
      · exact mem_while cls r c h
    · rw [if_neg hx] at h; simp at h

def Quiet (w : World) (v : Value) (e : Ending) (w' : World) : Prop := e = .returned v ∧ Below w.heap.size w w'

set_option maxRecDepth 100000 in
set_option maxHeartbeats 2000000 in
theorem refId_any (t : ByteArray) (w : World) (hs : t.size ≤ 140737488355328) (hd : ∀ c ∈ t.data.toList, cDigit c = true) :
    Calls Tryd.prog 28 #[.string t] w (Quiet w (.int .i64 (refIdN t))) := by
  by_cases h0 : t.size = 0
  · have e1 := str_empty h0
    have e2 := str_isEmpty h0
    have HE := Lib.hid (refIdN_no (.inl h0))
    clear h0
    go_enter Tryd.func28, Tryd.ntmps28
    go_wp2
    go_ret
    exact ⟨ret_int (by rw [HE.out]; rfl), Below.refl _ _⟩
  · have e1 := str_full (by omega : 0 < t.size)
    have e2 := str_nonEmpty (by omega : 0 < t.size)
    by_cases h1 : 7 < t.size
    · have HE := Lib.hid (refIdN_no (.inr (.inl h1)))
      have q1 : (7 : Int) < t.size := by omega
      go_enter Tryd.func28, Tryd.ntmps28
      go_wp2
      go_ret
      exact ⟨ret_int (by rw [HE.out]; rfl), Below.refl _ _⟩
    · have q1 : (t.size : Int) ≤ 7 := by omega
      have q2 : 0 < t.size := by omega
      have d1 : decide ((7 : Int) < t.size) = false := by simp; omega
      have z0 := bAt_lt q2
      by_cases h2 : (t[0].toNat : Int) = 48
      · have HE := Lib.hid (refIdN_no (t := t) (.inr (.inr (.inl (by omega)))))
        have b2 : ((t[0].toNat : Int) == 48) = true := by simpa using h2
        clear z0 h0 h1
        go_enter Tryd.func28, Tryd.ntmps28
        go_wp2
        go_ret
        exact ⟨ret_int (by rw [HE.out]; rfl), Below.refl _ _⟩
      · have b2 : ((t[0].toNat : Int) == 48) = false := by simpa using h2
        obtain ⟨n, hn⟩ : ∃ n, n = decV t.data.toList := ⟨_, rfl⟩
        have HA := Lib.hid (atoi_digits t.data.toList (by rw [← ByteArray.toList_eq]; exact e1) hd)
        rw [← hn] at HA
        have bn := decV_bound t.data.toList hd
        have bl : t.data.toList.length ≤ 7 := by rw [← Lib.size_eq]; omega
        have bm : (10 : Nat) ^ t.data.toList.length ≤ 10 ^ 7 := Nat.pow_le_pow_right (by decide) bl
        have bb : n < 10000000 := by rw [hn]; omega
        clear bm bn bl
        by_cases h3 : 1000000 < n
        · have HE := Lib.hid (refIdN_no (t := t) (.inr (.inr (.inr (by rw [← hn]; exact h3)))))
          have d3 : decide ((1000000 : Int) < (n : Int)) = true := by simp; omega
          have q3 : (1000000 : Int) < n := by omega
          clear z0 h0 h1 h2 hn
          go_enter Tryd.func28, Tryd.ntmps28
          go_wp2_with (go_at_call 37; refine (Tryd.strconv_Atoi t n (by omega) HA.out _).mono ?_; rintro e w' ⟨rfl, u, rfl⟩)
          go_ret
          exact ⟨ret_int (by rw [HE.out]; rfl), bytes_below _ _ _⟩
        · have HE := Lib.hid (show refIdN t = n by rw [hn]; exact refIdN_yes (by omega))
          have d3 : decide ((1000000 : Int) < (n : Int)) = false := by simp; omega
          have q3 : (n : Int) ≤ 1000000 := by omega
          clear z0 h0 h1 h2 hn
          go_enter Tryd.func28, Tryd.ntmps28
          go_wp2_with (go_at_call 37; refine (Tryd.strconv_Atoi t n (by omega) HA.out _).mono ?_; rintro e w' ⟨rfl, u, rfl⟩)
          go_ret
          exact ⟨ret_int (by rw [HE.out]), bytes_below _ _ _⟩

theorem run_digits {s : ByteArray} {a : Nat} : ∀ c ∈ (s.extract a (runTo cDigit s a)).data.toList, cDigit c = true := by
  intro c hc
  rw [Lib.extract_data] at hc
  unfold runTo at hc
  have e : ((s.data.toList.drop a).take (a + ((s.data.toList.drop a).takeWhile cDigit).length - a)) = (s.data.toList.drop a).takeWhile cDigit := by
    rw [Nat.add_sub_cancel_left]
    exact (List.prefix_iff_eq_take.1 (List.takeWhile_prefix _)).symm
  rw [e] at hc
  exact mem_while _ _ _ hc

def rfEnd (s : ByteArray) (a : Nat) : Nat :=
  if pre s a ⟨#[40, 40]⟩ = true then
    if refIdN (s.extract (a + 2) (runTo cDigit s (a + 2))) = 0 then 0 else eAfter s (runTo cDigit s (a + 2)) ⟨#[41, 41]⟩
  else 0

set_option maxRecDepth 100000 in
set_option maxHeartbeats 2000000 in
theorem refEnd_any (s : ByteArray) (a : Nat) (w : World) (hs : s.size ≤ 140737488355328) (ha : a < s.size) :
    Calls Tryd.prog 33 #[.string s, .int .i64 a] w (Quiet w (.int .i64 (rfEnd s a))) := by
  rcases h1 : pre s a ⟨#[40, 40]⟩ with _ | _
  · have HE := Lib.hid (show rfEnd s a = 0 by unfold rfEnd; rw [if_neg (by simp [h1])])
    have H1 := Lib.hid (eAfter_no h1)
    clear h1
    go_enter Tryd.func33, Tryd.ntmps33
    go_wp2_with fail
    refine (endAfter_any s ⟨#[40, 40]⟩ a _ hs (by decide) (by omega) (by omega)).mono ?_
    rintro e w' ⟨rfl, rfl⟩
    rw [Int.toNat_natCast, H1.out]
    go_wp2_with fail
    go_ret
    exact ⟨ret_int (by rw [HE.out]; rfl), Below.refl _ _⟩
  · have b1 : a + 2 ≤ s.size := pre_le h1 (by omega)
    have H1 := Lib.hid (show eAfter s a ⟨#[40, 40]⟩ = a + 2 from eAfter_yes h1)
    obtain ⟨n, hn⟩ : ∃ n, n = runTo cDigit s (a + 2) := ⟨_, rfl⟩
    have b2 : a + 2 ≤ n ∧ n ≤ s.size := by rw [hn]; exact runTo_le b1
    obtain ⟨b2, b3⟩ := b2
    have HN := Lib.hid hn
    have q0 : (0 : Int) < (a : Int) + 2 := by omega
    have q1 : ((a : Int) + 2 == 0) = false := by simp; omega
    have q2 : (a : Int) + 2 ≤ n := by omega
    have q3 : (n : Int) ≤ s.size := by omega
    have q6 : (0 : Int) ≤ (a : Int) + 2 := by omega
    have bx : (s.extract (a + 2) n).size ≤ 140737488355328 := by rw [ByteArray.size_extract]; omega
    have HD := Lib.hid (show ∀ c ∈ (s.extract (a + 2) n).data.toList, cDigit c = true by rw [hn]; exact run_digits)
    by_cases h2 : refIdN (s.extract (a + 2) n) = 0
    · have HE := Lib.hid (show rfEnd s a = 0 by unfold rfEnd; rw [if_pos h1, ← hn, if_pos h2])
      have H2 := Lib.hid h2
      clear h1 h2 hn
      go_enter Tryd.func33, Tryd.ntmps33
      go_wp2_with fail
      refine (endAfter_any s ⟨#[40, 40]⟩ a _ hs (by decide) (by omega) (by omega)).mono ?_
      rintro e w' ⟨rfl, rfl⟩
      rw [Int.toNat_natCast, H1.out]
      go_wp2_with fail
      refine (runEnd_any isDigit_class s ((a : Int) + 2) _ (by omega) (by omega) (by omega)).mono ?_
      rintro e w' ⟨rfl, rfl⟩
      rw [show ((a : Int) + 2).toNat = a + 2 from by omega, ← HN.out]
      go_wp2_with fail
      refine (refId_any _ _ bx HD.out).mono ?_
      rintro e w1 ⟨rfl, hb1⟩
      rw [H2.out]
      go_wp2_with fail
      go_ret
      exact ⟨ret_int (by rw [HE.out]; rfl), hb1⟩
    · have HE := Lib.hid (show rfEnd s a = eAfter s n ⟨#[41, 41]⟩ by unfold rfEnd; rw [if_pos h1, ← hn, if_neg h2])
      obtain ⟨r, hr⟩ : ∃ r, r = refIdN (s.extract (a + 2) n) := ⟨_, rfl⟩
      have H2 := Lib.hid hr.symm
      have q7 : ((r : Int) == 0) = false := by simp; omega
      clear h1 h2 hn hr
      go_enter Tryd.func33, Tryd.ntmps33
      go_wp2_with fail
      refine (endAfter_any s ⟨#[40, 40]⟩ a _ hs (by decide) (by omega) (by omega)).mono ?_
      rintro e w' ⟨rfl, rfl⟩
      rw [Int.toNat_natCast, H1.out]
      go_wp2_with fail
      refine (runEnd_any isDigit_class s ((a : Int) + 2) _ (by omega) (by omega) (by omega)).mono ?_
      rintro e w' ⟨rfl, rfl⟩
      rw [show ((a : Int) + 2).toNat = a + 2 from by omega, ← HN.out]
      go_wp2_with fail
      refine (refId_any _ _ bx HD.out).mono ?_
      rintro e w1 ⟨rfl, hb1⟩
      rw [H2.out]
      go_wp2_with fail
      refine (endAfter_any s ⟨#[41, 41]⟩ n _ hs (by decide) (by omega) (by omega)).mono ?_
      rintro e w2 ⟨rfl, rfl⟩
      rw [Int.toNat_natCast]
      go_wp2_with fail
      go_ret
      exact ⟨ret_int (by rw [HE.out]), hb1⟩

def keepsB (s : ByteArray) (a : Nat) : Bool := if h : 0 < a ∧ a - 1 < s.size then cKeeps (s[a - 1]'h.2) else false
def tgEnd (s : ByteArray) (a : Nat) : Nat :=
  if keepsB s a = true then 0 else if isTagRun (s.extract (a + 1) (runTo cTag s (a + 1))) = true then runTo cTag s (a + 1) else 0

set_option maxRecDepth 100000 in
set_option maxHeartbeats 2000000 in
theorem tagEnd_any (s : ByteArray) (a : Nat) (w : World) (hs : s.size ≤ 140737488355328) (ha : a < s.size) :
    Calls Tryd.prog 34 #[.string s, .int .i64 a] w fun e w' => e = .returned (.int .i64 (tgEnd s a)) ∧ w' = w := by
  obtain ⟨n, hn⟩ : ∃ n, n = runTo cTag s (a + 1) := ⟨_, rfl⟩
  have b2 : a + 1 ≤ n ∧ n ≤ s.size := by rw [hn]; exact runTo_le (by omega)
  obtain ⟨b2, b3⟩ := b2
  have HN := Lib.hid hn
  have q2 : (a : Int) + 1 ≤ n := by omega
  have q3 : (n : Int) ≤ s.size := by omega
  have q6 : (0 : Int) ≤ (a : Int) + 1 := by omega
  have bx : (s.extract (a + 1) n).size ≤ 140737488355328 := by rw [ByteArray.size_extract]; omega
  by_cases h0 : 0 < a
  · have q0 : (0 : Int) < a := by omega
    have q7 : (1 : Int) ≤ a := by omega
    have q8 : (a : Int) - 1 < s.size := by omega
    have q9 : a - 1 < s.size := by omega
    have d0 : decide ((0 : Int) < a) = true := by simp; omega
    rcases h1 : cKeeps s[a - 1] with _ | _
    · have hk : keepsB s a = false := by unfold keepsB; rw [dif_pos ⟨h0, q9⟩]; exact h1
      have H1 := Lib.hid h1
      rcases h2 : isTagRun (s.extract (a + 1) n) with _ | _
      · have HE := Lib.hid (show tgEnd s a = 0 by unfold tgEnd; rw [if_neg (by simp [hk]), ← hn, if_neg (by simp [h2])])
        have H2 := Lib.hid h2
        clear h1 h2 hn hk
        go_enter Tryd.func34, Tryd.ntmps34
        go_wp2_with fail
        refine (keepsFromTag_any s[a - 1] _).mono ?_
        rintro e w' ⟨rfl, rfl⟩
        rw [H1.out]
        go_wp2_with fail
        refine (runEnd_any isTagByte_class s ((a : Int) + 1) _ (by omega) (by omega) (by omega)).mono ?_
        rintro e w' ⟨rfl, rfl⟩
        rw [show ((a : Int) + 1).toNat = a + 1 from by omega, ← HN.out]
        go_wp2_with fail
        refine (isTag_any _ _ bx).mono ?_
        rintro e w' ⟨rfl, rfl⟩
        rw [H2.out]
        go_wp2_with fail
        go_ret
        exact ⟨ret_int (by rw [HE.out]; rfl), rfl⟩
      · have HE := Lib.hid (show tgEnd s a = n by unfold tgEnd; rw [if_neg (by simp [hk]), ← hn, if_pos h2])
        have H2 := Lib.hid h2
        clear h1 h2 hn hk
        go_enter Tryd.func34, Tryd.ntmps34
        go_wp2_with fail
        refine (keepsFromTag_any s[a - 1] _).mono ?_
        rintro e w' ⟨rfl, rfl⟩
        rw [H1.out]
        go_wp2_with fail
        refine (runEnd_any isTagByte_class s ((a : Int) + 1) _ (by omega) (by omega) (by omega)).mono ?_
        rintro e w' ⟨rfl, rfl⟩
        rw [show ((a : Int) + 1).toNat = a + 1 from by omega, ← HN.out]
        go_wp2_with fail
        refine (isTag_any _ _ bx).mono ?_
        rintro e w' ⟨rfl, rfl⟩
        rw [H2.out]
        go_wp2_with fail
        go_ret
        exact ⟨ret_int (by rw [HE.out]), rfl⟩
    · have HE := Lib.hid (show tgEnd s a = 0 by unfold tgEnd; rw [if_pos (by unfold keepsB; rw [dif_pos ⟨h0, q9⟩]; exact h1)])
      have H1 := Lib.hid h1
      clear h1 hn
      go_enter Tryd.func34, Tryd.ntmps34
      go_wp2_with fail
      refine (keepsFromTag_any s[a - 1] _).mono ?_
      rintro e w' ⟨rfl, rfl⟩
      rw [H1.out]
      go_wp2_with fail
      go_ret
      exact ⟨ret_int (by rw [HE.out]; rfl), rfl⟩
  · have hk : keepsB s a = false := by unfold keepsB; rw [dif_neg (by omega)]
    have d0 : decide ((0 : Int) < a) = false := by simp; omega
    rcases h2 : isTagRun (s.extract (a + 1) n) with _ | _
    · have HE := Lib.hid (show tgEnd s a = 0 by unfold tgEnd; rw [if_neg (by simp [hk]), ← hn, if_neg (by simp [h2])])
      have H2 := Lib.hid h2
      clear h2 hn hk
      go_enter Tryd.func34, Tryd.ntmps34
      go_wp2_with fail
      refine (runEnd_any isTagByte_class s ((a : Int) + 1) _ (by omega) (by omega) (by omega)).mono ?_
      rintro e w' ⟨rfl, rfl⟩
      rw [show ((a : Int) + 1).toNat = a + 1 from by omega, ← HN.out]
      go_wp2_with fail
      refine (isTag_any _ _ bx).mono ?_
      rintro e w' ⟨rfl, rfl⟩
      rw [H2.out]
      go_wp2_with fail
      go_ret
      exact ⟨ret_int (by rw [HE.out]; rfl), rfl⟩
    · have HE := Lib.hid (show tgEnd s a = n by unfold tgEnd; rw [if_neg (by simp [hk]), ← hn, if_pos h2])
      have H2 := Lib.hid h2
      clear h2 hn hk
      go_enter Tryd.func34, Tryd.ntmps34
      go_wp2_with fail
      refine (runEnd_any isTagByte_class s ((a : Int) + 1) _ (by omega) (by omega) (by omega)).mono ?_
      rintro e w' ⟨rfl, rfl⟩
      rw [show ((a : Int) + 1).toNat = a + 1 from by omega, ← HN.out]
      go_wp2_with fail
      refine (isTag_any _ _ bx).mono ?_
      rintro e w' ⟨rfl, rfl⟩
      rw [H2.out]
      go_wp2_with fail
      go_ret
      exact ⟨ret_int (by rw [HE.out]), rfl⟩

/-- The end of the token of a kind that begins at a place, 0 if none does. -/
def tokEnd (s : ByteArray) (a : Nat) (k : Nat) : Nat :=
  if k = 0 then escEnd s a else if k = 1 then codEnd s a else if k = 2 then lnkEnd s a else if k = 3 then rfEnd s a else if k = 4 then tgEnd s a else eAfter s a ⟨#[42, 42]⟩

set_option maxHeartbeats 2000000 in
theorem tokenEnd_any (s : ByteArray) (a k : Nat) (w : World) (hs : s.size ≤ 140737488355328) (ha : a < s.size) (hk : k < 6) :
    Calls Tryd.prog 26 #[.string s, .int .i64 a, .int .i64 k] w (Quiet w (.int .i64 (tokEnd s a k))) := by
  rcases (by omega : k = 0 ∨ k = 1 ∨ k = 2 ∨ k = 3 ∨ k = 4 ∨ k = 5) with rfl | rfl | rfl | rfl | rfl | rfl
  all_goals
    clear hk
    go_enter Tryd.func26, Tryd.ntmps26
    go_wp2_with (first
      | (go_at_call 30; refine (escapeEnd_any s a _ hs ha).mono ?_; rintro e w1 ⟨rfl, rfl⟩)
      | (go_at_call 31; refine (codeEnd_any s a _ hs ha).mono ?_; rintro e w1 ⟨rfl, rfl⟩)
      | (go_at_call 32; refine (linkEnd_any s a _ hs ha).mono ?_; rintro e w1 ⟨rfl, rfl⟩)
      | (go_at_call 33; refine (refEnd_any s a _ hs ha).mono ?_; rintro e w1 ⟨rfl, hb1⟩)
      | (go_at_call 34; refine (tagEnd_any s a _ hs ha).mono ?_; rintro e w1 ⟨rfl, rfl⟩)
      | (go_at_call 35; refine (endAfter_any s ⟨#[42, 42]⟩ a _ hs (by decide) (by omega) (by omega)).mono ?_; rintro e w1 ⟨rfl, rfl⟩))
    go_ret
    exact ⟨ret_int (by first | rfl | (rw [Int.toNat_natCast]; rfl)), by first | exact Below.refl _ _ | exact hb1⟩
end Go.Proofs.YtdhaanlgijikeaaDoor
