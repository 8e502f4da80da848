/- Package text: a string in which a link's target is another one is cut alike. -/
import Derived.Test.YtdhaanlgijikeaaDoorTgC
import Derived.Lib.IndexLaws
namespace Go.Proofs.YtdhaanlgijikeaaDoor
open Go.RowKit

/-! ### The length of a token, from the bytes that follow -/
def bl (l : List UInt8) : ByteArray := ⟨l.toArray⟩
def rl (cls : UInt8 → Bool) (l : List UInt8) : Nat := (l.takeWhile cls).length
def tz (z : List UInt8) : Nat :=
  if [124].isPrefixOf z = true then
    if rl cShown (z.drop 1) = 0 then 0 else if [93, 93].isPrefixOf (z.drop (1 + rl cShown (z.drop 1))) = true then 1 + rl cShown (z.drop 1) + 2 else 0
  else if [93, 93].isPrefixOf z = true then 2 else 0
def lkL (l : List UInt8) : Nat :=
  if [91, 91].isPrefixOf l = true then
    if isTgt (bl ((l.drop 2).take (rl cTarget (l.drop 2)))) = true then
      if tz (l.drop (2 + rl cTarget (l.drop 2))) = 0 then 0 else 2 + rl cTarget (l.drop 2) + tz (l.drop (2 + rl cTarget (l.drop 2)))
    else 0
  else 0
def esL (l : List UInt8) : Nat := match l[1]? with | some c => if cPunct c = true then 2 else 0 | none => 0
def cdL (l : List UInt8) : Nat := if Lib.indexByte (l.drop 1) 96 < 1 then 0 else (Lib.indexByte (l.drop 1) 96).toNat + 2
def rfL (l : List UInt8) : Nat :=
  if [40, 40].isPrefixOf l = true then
    if refIdN (bl ((l.drop 2).take (rl cDigit (l.drop 2)))) = 0 then 0 else if [41, 41].isPrefixOf (l.drop (2 + rl cDigit (l.drop 2))) = true then 2 + rl cDigit (l.drop 2) + 2 else 0
  else 0
def tgL (p : Bool) (l : List UInt8) : Nat :=
  if p = true then 0 else if isTagRun (bl ((l.drop 1).take (rl cTag (l.drop 1)))) = true then 1 + rl cTag (l.drop 1) else 0
def tlen (p : Bool) (l : List UInt8) (k : Nat) : Nat :=
  if k = 0 then esL l else if k = 1 then cdL l else if k = 2 then lkL l else if k = 3 then rfL l else if k = 4 then tgL p l else if [42, 42].isPrefixOf l = true then 2 else 0

theorem ext_bl (s : ByteArray) (a b : Nat) : s.extract a b = bl ((s.data.toList.drop a).take (b - a)) := Lib.extract_eq s a b
theorem pre_l (s m : ByteArray) (a : Nat) : pre s a m = m.data.toList.isPrefixOf (s.data.toList.drop a) := by
  unfold pre Lib.hasPrefix
  rw [Lib.extract_data, List.take_of_length_le (by rw [List.length_drop, ← Lib.size_eq]; exact Nat.le_refl _)]
theorem run_l (cls : UInt8 → Bool) (s : ByteArray) (a : Nat) : runTo cls s a = a + rl cls (s.data.toList.drop a) := rfl
theorem ext_run (cls : UInt8 → Bool) (s : ByteArray) (a : Nat) : s.extract a (runTo cls s a) = bl ((s.data.toList.drop a).take (rl cls (s.data.toList.drop a))) := by
  rw [ext_bl, run_l, Nat.add_sub_cancel_left]
def shf (a n : Nat) : Nat := if n = 0 then 0 else a + n
theorem eAfter_l (s m : ByteArray) (a : Nat) (hm : m.size = 2) : eAfter s a m = if m.data.toList.isPrefixOf (s.data.toList.drop a) = true then a + 2 else 0 := by
  unfold eAfter; rw [pre_l, hm]
theorem tgEnd_l (s : ByteArray) (a : Nat) : tgEnd s a = shf a (tgL (keepsB s a) (s.data.toList.drop a)) := by
  unfold tgEnd tgL shf
  rw [ext_run, List.drop_drop, run_l]
  split
  · rfl
  · split
    · rw [if_neg (by omega)]; omega
    · rfl
theorem rfEnd_l (s : ByteArray) (a : Nat) : rfEnd s a = shf a (rfL (s.data.toList.drop a)) := by
  unfold rfEnd rfL shf
  rw [ext_run, pre_l, eAfter_l _ _ _ rfl, List.drop_drop, List.drop_drop, run_l, Nat.add_assoc]
  split
  · split
    · rfl
    · split
      · rw [if_neg (by omega)]; omega
      · rfl
  · rfl
theorem escEnd_l (s : ByteArray) (a : Nat) : escEnd s a = shf a (esL (s.data.toList.drop a)) := by
  unfold escEnd esL shf
  rw [List.getElem?_drop]
  by_cases h : a + 1 < s.size
  · have h2 : a + 1 < s.data.toList.length := by rw [← Lib.size_eq]; exact h
    rw [dif_pos h, List.getElem?_eq_getElem h2]
    have e : s[a + 1] = s.data.toList[a + 1] := by rw [ByteArray.getElem_eq_getElem_data, Array.getElem_toList]
    rw [e]
    generalize s.data.toList[a + 1] = c
    rcases hc : cPunct c with _ | _ <;> simp [hc]
  · have h2 : s.data.toList.length ≤ a + 1 := by rw [← Lib.size_eq]; omega
    rw [dif_neg h, List.getElem?_eq_none h2]
    rfl
theorem codEnd_l (s : ByteArray) (a : Nat) : codEnd s a = shf a (cdL (s.data.toList.drop a)) := by
  unfold codEnd cdL shf
  rw [Lib.extract_data, List.take_of_length_le (by rw [List.length_drop, ← Lib.size_eq]; exact Nat.le_refl _), List.drop_drop]
  split
  · rfl
  · rw [if_neg (by omega)]; omega
theorem lnkEnd_l (s : ByteArray) (a : Nat) : lnkEnd s a = shf a (lkL (s.data.toList.drop a)) := by
  unfold lnkEnd lkL shf tz
  rw [ext_run, pre_l, pre_l, eAfter_l _ _ _ rfl, eAfter_l _ _ _ rfl]
  simp only [List.drop_drop, run_l, Nat.add_assoc]
  split
  · split
    · split
      · split
        · rename_i h1 h2 h3 h4
          have h5 : rl cShown (List.drop (a + (2 + (rl cTarget (List.drop (a + 2) s.data.toList) + 1))) s.data.toList) = 0 := by omega
          rw [if_pos h5, if_pos rfl, if_pos rfl]
        · rename_i h1 h2 h3 h4
          have h5 : rl cShown (List.drop (a + (2 + (rl cTarget (List.drop (a + 2) s.data.toList) + 1))) s.data.toList) ≠ 0 := by omega
          rw [if_neg h5]
          split
          · rw [if_neg (by simp), if_neg (by omega)]
          · simp
      · split
        · simp
        · simp
    · simp
  · simp
theorem tokEnd_l (s : ByteArray) (a k : Nat) : tokEnd s a k = shf a (tlen (keepsB s a) (s.data.toList.drop a) k) := by
  unfold tokEnd tlen
  split
  · exact escEnd_l s a
  · split
    · exact codEnd_l s a
    · split
      · exact lnkEnd_l s a
      · split
        · exact rfEnd_l s a
        · split
          · exact tgEnd_l s a
          · rw [eAfter_l _ _ _ rfl]
            unfold shf
            show (if [42, 42].isPrefixOf _ = true then _ else _) = _
            split
            · rw [if_neg (by decide)]
            · rfl
def hitL (p : Bool) (l : List UInt8) (k : Nat) : Bool := decide ((match l with | [] => -1 | c :: _ => (c.toNat : Int)) = opB k) && decide (0 < tlen p l k)
theorem hit_l (s : ByteArray) (a k : Nat) : hit s a k = hitL (keepsB s a) (s.data.toList.drop a) k := by
  unfold hit hitL
  rw [tokEnd_l]
  congr 1
  · congr 1
    unfold bAt
    by_cases h : a < s.size
    · have h2 : a < s.data.toList.length := by rw [← Lib.size_eq]; exact h
      rw [dif_pos h, List.drop_eq_getElem_cons h2]
      have e : s[a] = s.data.toList[a] := by rw [ByteArray.getElem_eq_getElem_data, Array.getElem_toList]
      rw [e]
    · have h2 : s.data.toList.length ≤ a := by rw [← Lib.size_eq]; omega
      rw [dif_neg h, List.drop_eq_nil_of_le h2]
  · unfold shf
    congr 1
    rw [eq_iff_iff]
    split <;> omega

/-! ### What follows a bracket does not matter before it -/
theorem tw_stop (cls : UInt8 → Bool) (h : cls 91 = false) (x : List UInt8) : ∀ l : List UInt8, (l ++ 91 :: x).takeWhile cls = l.takeWhile cls
  | [] => by simp [List.takeWhile_cons, h]
  | c :: l => by
    rw [List.cons_append, List.takeWhile_cons, List.takeWhile_cons, tw_stop cls h x l]
theorem rl_stop (cls : UInt8 → Bool) (h : cls 91 = false) (x l : List UInt8) : rl cls (l ++ 91 :: x) = rl cls l := by unfold rl; rw [tw_stop cls h]
theorem rl_le (cls : UInt8 → Bool) (l : List UInt8) : rl cls l ≤ l.length := (List.takeWhile_sublist _).length_le
theorem take_rl (cls : UInt8 → Bool) (h : cls 91 = false) (x l : List UInt8) : (l ++ 91 :: x).take (rl cls (l ++ 91 :: x)) = l.take (rl cls l) := by
  rw [rl_stop cls h, List.take_append_of_le_length (rl_le _ _)]
theorem drop_rl (cls : UInt8 → Bool) (h : cls 91 = false) (x l : List UInt8) : (l ++ 91 :: x).drop (rl cls (l ++ 91 :: x)) = l.drop (rl cls l) ++ 91 :: x := by
  rw [rl_stop cls h, List.drop_append_of_le_length (rl_le _ _)]
theorem pre2_stop {c : UInt8} (h : c ≠ 91) (x y : List UInt8) : ∀ l : List UInt8, [c, c].isPrefixOf (l ++ 91 :: x) = [c, c].isPrefixOf (l ++ 91 :: y)
  | [] => by have e : (c == 91) = false := by simpa using h
             simp only [List.nil_append, List.isPrefixOf, e, Bool.false_and]
  | [d] => by have e : (c == 91) = false := by simpa using h
              simp only [List.cons_append, List.nil_append, List.isPrefixOf, e, Bool.false_and, Bool.and_false]
  | d :: e :: l => by simp [List.isPrefixOf]
theorem pre1_stop {c : UInt8} (h : c ≠ 91) (x y : List UInt8) : ∀ l : List UInt8, [c].isPrefixOf (l ++ 91 :: x) = [c].isPrefixOf (l ++ 91 :: y)
  | [] => by simp [List.isPrefixOf, h]
  | d :: l => by simp [List.isPrefixOf]
theorem tz_stop (x y : List UInt8) : ∀ l : List UInt8, tz (l ++ 91 :: x) = tz (l ++ 91 :: y)
  | [] => by simp [tz, List.isPrefixOf]
  | d :: l => by
    unfold tz
    rw [pre1_stop (by decide) x y, pre2_stop (by decide) x y (d :: l)]
    have e1 : ∀ r : List UInt8, (d :: l ++ 91 :: r).drop 1 = l ++ 91 :: r := fun r => rfl
    have e2 : ∀ (r : List UInt8) n, (d :: l ++ 91 :: r).drop (1 + n) = (l ++ 91 :: r).drop n := fun r n => by rw [Nat.add_comm]; rfl
    simp only [e1, e2]
    rw [drop_rl cShown (by decide), drop_rl cShown (by decide), rl_stop cShown (by decide), rl_stop cShown (by decide), pre2_stop (by decide) x y]
theorem drop2_rl (cls : UInt8 → Bool) (h : cls 91 = false) (c d : UInt8) (l x : List UInt8) : (c :: d :: l ++ 91 :: x).drop (2 + rl cls (l ++ 91 :: x)) = l.drop (rl cls l) ++ 91 :: x := by
  rw [← drop_rl cls h, Nat.add_comm]; rfl
theorem lk_stop (x y : List UInt8) : ∀ l : List UInt8, l ≠ [] → lkL (l ++ 91 :: 91 :: x) = lkL (l ++ 91 :: 91 :: y)
  | [], h => absurd rfl h
  | [c], _ => by
    have e : ∀ r : List UInt8, lkL ([c] ++ 91 :: 91 :: r) = 0 := fun r => by
      unfold lkL
      have e1 : ([c] ++ 91 :: 91 :: r).drop 2 = 91 :: r := rfl
      have e2 : rl cTarget (91 :: r) = 0 := by unfold rl; rw [List.takeWhile_cons, if_neg (by decide)]; rfl
      rw [e1, e2]
      have e3 : isTgt (bl (List.take 0 (91 :: r))) = false := by show isTgt (bl []) = false; decide
      rw [e3]
      split <;> rfl
    rw [e, e]
  | c :: d :: l, _ => by
    unfold lkL
    have e1 : ∀ r : List UInt8, (c :: d :: l ++ 91 :: 91 :: r).drop 2 = l ++ 91 :: 91 :: r := fun _ => rfl
    rw [e1, e1, drop2_rl cTarget (by decide), drop2_rl cTarget (by decide), take_rl cTarget (by decide), take_rl cTarget (by decide), rl_stop cTarget (by decide), rl_stop cTarget (by decide), tz_stop (91 :: x) (91 :: y)]
    have e2 : ∀ r : List UInt8, [91, 91].isPrefixOf (c :: d :: l ++ r) = [91, 91].isPrefixOf [c, d] := fun _ => by simp [List.isPrefixOf]
    rw [e2, e2]
theorem rf_stop (x y : List UInt8) : ∀ l : List UInt8, l ≠ [] → rfL (l ++ 91 :: x) = rfL (l ++ 91 :: y)
  | [], h => absurd rfl h
  | [c], _ => by
    have e : ∀ r : List UInt8, rfL ([c] ++ 91 :: r) = 0 := fun r => by unfold rfL; rw [if_neg (by simp [List.isPrefixOf])]
    rw [e, e]
  | c :: d :: l, _ => by
    unfold rfL
    have e1 : ∀ r : List UInt8, (c :: d :: l ++ 91 :: r).drop 2 = l ++ 91 :: r := fun _ => rfl
    rw [e1, e1, drop2_rl cDigit (by decide), drop2_rl cDigit (by decide), take_rl cDigit (by decide), take_rl cDigit (by decide), rl_stop cDigit (by decide), rl_stop cDigit (by decide), pre2_stop (c := 41) (by decide) x y]
    have e2 : ∀ r : List UInt8, [40, 40].isPrefixOf (c :: d :: l ++ r) = [40, 40].isPrefixOf [c, d] := fun _ => by simp [List.isPrefixOf]
    rw [e2, e2]
theorem es_stop (x y : List UInt8) : ∀ l : List UInt8, l ≠ [] → esL (l ++ 91 :: x) = esL (l ++ 91 :: y)
  | [], h => absurd rfl h
  | [c], _ => rfl
  | c :: d :: l, _ => rfl
theorem tg_stop (p : Bool) (x y : List UInt8) : ∀ l : List UInt8, l ≠ [] → tgL p (l ++ 91 :: x) = tgL p (l ++ 91 :: y)
  | [], h => absurd rfl h
  | c :: l, _ => by
    unfold tgL
    have e1 : ∀ r : List UInt8, (c :: l ++ 91 :: r).drop 1 = l ++ 91 :: r := fun _ => rfl
    rw [e1, e1, take_rl cTag (by decide), take_rl cTag (by decide), rl_stop cTag (by decide), rl_stop cTag (by decide)]
theorem tlen_stop (p : Bool) (x y l : List UInt8) (k : Nat) (h : l ≠ []) (hk : k ≠ 1) : tlen p (l ++ 91 :: 91 :: x) k = tlen p (l ++ 91 :: 91 :: y) k := by
  unfold tlen
  rw [if_neg hk, if_neg hk, es_stop (91 :: x) (91 :: y) l h, lk_stop x y l h, rf_stop (91 :: x) (91 :: y) l h, tg_stop p (91 :: x) (91 :: y) l h, pre2_stop (c := 42) (by decide) (91 :: x) (91 :: y)]
/-- Code: either the same, or it goes on behind the bracket. -/
theorem ib_left (x : List UInt8) : ∀ {l : List UInt8}, (96 : UInt8) ∈ l → Lib.indexByte (l ++ x) 96 = Lib.indexByte l 96 ∧ Lib.indexByte l 96 < l.length
  | [], h => absurd h (by simp)
  | c :: l, h => by
    rw [List.cons_append]
    unfold Lib.indexByte
    by_cases hc : (c == 96) = true
    · rw [if_pos hc, if_pos hc]; exact ⟨rfl, by simp⟩
    · rw [if_neg hc, if_neg hc]
      have hl : (96 : UInt8) ∈ l := by
        rcases List.mem_cons.1 h with e | e
        · rw [← e] at hc; exact absurd (by decide) hc
        · exact e
      obtain ⟨h1, h2⟩ := ib_left x hl
      rw [h1]
      exact ⟨rfl, by split <;> simp <;> omega⟩
theorem ib_right (x : List UInt8) : ∀ {l : List UInt8}, (96 : UInt8) ∉ l → Lib.indexByte (l ++ x) 96 = if Lib.indexByte x 96 = -1 then -1 else l.length + Lib.indexByte x 96
  | [], _ => by simp
  | c :: l, h => by
    rw [List.cons_append]
    conv => lhs; unfold Lib.indexByte
    have hc : ¬ (c == 96) = true := fun e => h (by rw [beq_iff_eq] at e; simp [e])
    rw [if_neg hc, ib_right x (l := l) (fun e => h (by simp [e]))]
    have hge := Lib.indexByte_ge x 96
    split
    · simp
    · rw [if_neg (by simp; omega)]; simp; omega
theorem ib_none {l : List UInt8} : Lib.indexByte l 96 = -1 ↔ (96 : UInt8) ∉ l := by
  constructor
  · intro h hm
    obtain ⟨n, hn, e⟩ := List.mem_iff_getElem.1 hm
    exact Lib.indexByte_none h n (by rw [List.getElem?_eq_getElem hn, e])
  · intro h
    have hge := Lib.indexByte_ge l 96
    by_cases h0 : Lib.indexByte l 96 = -1
    · exact h0
    · obtain ⟨o, ho⟩ := Int.eq_ofNat_of_zero_le (by omega : 0 ≤ Lib.indexByte l 96)
      have := (Lib.indexByte_some ho).1
      exact absurd (List.mem_of_getElem? this) h
/-- Code: the same on both sides, or it ends behind the bracket. -/
theorem cd_stop (x y : List UInt8) (c : UInt8) (l : List UInt8) (hxy : (96 : UInt8) ∈ y → (96 : UInt8) ∈ x) : cdL (c :: l ++ 91 :: x) = cdL (c :: l ++ 91 :: y) ∨ l.length + 1 < cdL (c :: l ++ 91 :: x) := by
  unfold cdL
  have e1 : ∀ r : List UInt8, (c :: l ++ 91 :: r).drop 1 = l ++ 91 :: r := fun _ => rfl
  rw [e1, e1]
  by_cases hl : (96 : UInt8) ∈ l
  · rw [(ib_left _ hl).1, (ib_left _ hl).1]; exact .inl rfl
  · rw [ib_right _ hl, ib_right _ hl]
    by_cases hx : (96 : UInt8) ∈ x
    · right
      have h1 : Lib.indexByte (91 :: x) 96 ≠ -1 := fun h => ib_none.1 h (by simp [hx])
      have h2 : 1 ≤ Lib.indexByte (91 :: x) 96 := by
        have hge := Lib.indexByte_ge x 96
        unfold Lib.indexByte at h1 ⊢
        rw [if_neg (by decide)] at h1 ⊢
        split
        · rename_i h; rw [if_pos h] at h1; exact absurd rfl h1
        · rename_i h; simp at h; omega
      rw [if_neg h1, if_neg (by omega)]
      omega
    · left
      have h1 : ∀ r : List UInt8, (96 : UInt8) ∉ r → Lib.indexByte (91 :: r) 96 = -1 := fun r hr => ib_none.2 (by simp [hr])
      rw [h1 x hx, h1 y (fun h => hx (hxy h))]

/-! ### The tokens of a string in which a link's target is another one -/
structure Twin (s t : ByteArray) (p : List UInt8) (old new z : List UInt8) : Prop where
  s : s.data.toList = p ++ 91 :: 91 :: (old ++ z)
  t : t.data.toList = p ++ 91 :: 91 :: (new ++ z)
  old : isTgt (bl old) = true
  new : isTgt (bl new) = true
  tail : 0 < tz z
theorem isTgt_all {m : List UInt8} (h : isTgt (bl m) = true) : m.takeWhile cTarget = m := by
  unfold isTgt at h
  rw [decide_eq_true_eq] at h
  have h5 := h.2.2.2.2
  rw [run_l] at h5
  have e : (bl m).data.toList = m := rfl
  rw [Lib.size_eq, e, List.drop_zero] at h5
  exact (List.takeWhile_prefix cTarget).eq_of_length (by unfold rl at h5; omega)
theorem isTgt_mem {m : List UInt8} (h : isTgt (bl m) = true) : ∀ c ∈ m, cTarget c = true := by
  intro c hc
  rw [← isTgt_all h] at hc
  exact mem_while _ _ _ hc
theorem tz_head {z : List UInt8} (h : 0 < tz z) : ∃ c r, z = c :: r ∧ (c = 124 ∨ c = 93) := by
  cases z with
  | nil => simp [tz, List.isPrefixOf] at h
  | cons c r =>
    refine ⟨c, r, rfl, ?_⟩
    unfold tz at h
    by_cases h1 : c = 124
    · exact .inl h1
    · by_cases h2 : c = 93
      · exact .inr h2
      · exfalso
        have e1 : ((124 : UInt8) == c) = false := by simpa using fun e => h1 e.symm
        have e2 : ((93 : UInt8) == c) = false := by simpa using fun e => h2 e.symm
        simp [List.isPrefixOf, e1, e2] at h
theorem tw_all {m z : List UInt8} (h : isTgt (bl m) = true) (hz : 0 < tz z) : (m ++ z).takeWhile cTarget = m := by
  obtain ⟨c, r, rfl, hc⟩ := tz_head hz
  rw [List.takeWhile_append_of_pos (isTgt_mem h), List.takeWhile_cons, if_neg (by rcases hc with rfl | rfl <;> decide), List.append_nil]
theorem lk_all {m z : List UInt8} (h : isTgt (bl m) = true) (hz : 0 < tz z) : lkL (91 :: 91 :: (m ++ z)) = 2 + m.length + tz z := by
  have e1 : (91 :: 91 :: (m ++ z)).drop 2 = m ++ z := rfl
  have e2 : rl cTarget (m ++ z) = m.length := by unfold rl; rw [tw_all h hz]
  have e3 : (91 :: 91 :: (m ++ z)).drop (2 + m.length) = z := by
    rw [Nat.add_comm]; show (m ++ z).drop m.length = z; exact List.drop_left
  unfold lkL
  rw [e1, e2, e3, List.take_left, h, if_pos (by simp [List.isPrefixOf]), if_pos rfl, if_neg (by omega)]
/-- A link in a string: what it is made of. -/
theorem lk_parts {l : List UInt8} (h : 0 < lkL l) : ∃ old z, l = 91 :: 91 :: (old ++ z) ∧ isTgt (bl old) = true ∧ 0 < tz z := by
  unfold lkL at h
  split at h
  · rename_i hp
    split at h
    · rename_i ht
      refine ⟨(l.drop 2).take (rl cTarget (l.drop 2)), l.drop (2 + rl cTarget (l.drop 2)), ?_, ht, ?_⟩
      · rw [List.isPrefixOf_iff_prefix] at hp
        obtain ⟨r, rfl⟩ := hp
        have e : ([91, 91] ++ r).drop 2 = r := rfl
        have e2 : ([91, 91] ++ r).drop (2 + rl cTarget r) = r.drop (rl cTarget r) := by rw [Nat.add_comm]; rfl
        rw [e, e2, List.take_append_drop]
        rfl
      · split at h
        · exact absurd h (by decide)
        · omega
    · exact absurd h (by decide)
  · exact absurd h (by decide)
theorem keepsB_drop {s : ByteArray} {a : Nat} (h : 0 < a) : keepsB s a = (match (s.data.toList.drop (a - 1)) with | [] => false | c :: _ => cKeeps c) := by
  unfold keepsB
  by_cases h2 : a - 1 < s.size
  · have h3 : a - 1 < s.data.toList.length := by rw [← Lib.size_eq]; exact h2
    rw [dif_pos ⟨h, h2⟩, List.drop_eq_getElem_cons h3, ByteArray.getElem_eq_getElem_data, Array.getElem_toList]
  · have h3 : s.data.toList.length ≤ a - 1 := by rw [← Lib.size_eq]; omega
    rw [dif_neg (fun e => h2 e.2), List.drop_eq_nil_of_le h3]

theorem Row.below {i : Nat} {x : Tok} {B : List Tok} : ∀ {A : List Tok}, Row i (A ++ x :: B) → i ≤ x.from_ ∧ ∀ y ∈ A, y.to_ ≤ x.from_
  | [], h => ⟨h.1, fun _ hy => absurd hy (by simp)⟩
  | y :: A, h => by
    obtain ⟨h1, h2, h3⟩ := h
    obtain ⟨i1, i2⟩ := Row.below h3
    refine ⟨by omega, fun v hv => ?_⟩
    rcases List.mem_cons.1 hv with rfl | hv
    · exact i1
    · exact i2 v hv
theorem Row.after {i : Nat} {x : Tok} {B : List Tok} : ∀ {A : List Tok}, Row i (A ++ x :: B) → Row x.to_ B
  | [], h => h.2.2
  | y :: A, h => Row.after h.2.2

theorem firstK_congr {p q : Nat → Bool} : ∀ (n j : Nat), (∀ k, j ≤ k → k < j + n → p k = q k) → firstK p n j = firstK q n j
  | 0, _, _ => rfl
  | n + 1, j, h => by
    unfold firstK
    rw [h j (Nat.le_refl _) (by omega), firstK_congr n (j + 1) (fun k h1 h2 => h k (by omega) (by omega))]

section twin
variable {s t : ByteArray} {p old new z : List UInt8}
theorem Twin.drop_s (h : Twin s t p old new z) (i : Nat) (hi : i ≤ p.length) : s.data.toList.drop i = p.drop i ++ 91 :: 91 :: (old ++ z) := by rw [h.s, List.drop_append_of_le_length hi]
theorem Twin.drop_t (h : Twin s t p old new z) (i : Nat) (hi : i ≤ p.length) : t.data.toList.drop i = p.drop i ++ 91 :: 91 :: (new ++ z) := by rw [h.t, List.drop_append_of_le_length hi]
theorem Twin.keeps (h : Twin s t p old new z) (i : Nat) (hi : i ≤ p.length) : keepsB s i = keepsB t i := by
  by_cases h0 : 0 < i
  · rw [keepsB_drop h0, keepsB_drop h0, h.drop_s _ (by omega), h.drop_t _ (by omega)]
    have hl : p.drop (i - 1) ≠ [] := by intro e; have := congrArg List.length e; rw [List.length_drop] at this; simp at this; omega
    cases hp : p.drop (i - 1) with
    | nil => exact absurd hp hl
    | cons c r => rfl
  · obtain rfl : i = 0 := by omega
    rfl
/-- Before the link: the same token begins, if it does not go beyond. -/
theorem Twin.first (h : Twin s t p old new z) (i : Nat) (hi : i < p.length) (hb : ∀ k, firstK (hit s i) 6 0 = some k → tokEnd s i k ≤ p.length) :
    firstK (hit t i) 6 0 = firstK (hit s i) 6 0 ∧ ∀ k, firstK (hit s i) 6 0 = some k → tokEnd t i k = tokEnd s i k := by
  have hne : p.drop i ≠ [] := by intro e; have := congrArg List.length e; rw [List.length_drop] at this; simp at this; omega
  have hds := h.drop_s i (by omega)
  have hdt := h.drop_t i (by omega)
  have hk := h.keeps i (by omega)
  have hx : (96 : UInt8) ∈ 91 :: (new ++ z) → (96 : UInt8) ∈ 91 :: (old ++ z) := by
    intro hm
    rcases List.mem_cons.1 hm with e | hm
    · exact absurd e (by decide)
    · rcases List.mem_append.1 hm with hm | hm
      · exact absurd (isTgt_mem h.new _ hm) (by decide)
      · simp [hm]
  have hlen : ∀ k, k ≠ 1 → tlen (keepsB t i) (t.data.toList.drop i) k = tlen (keepsB s i) (s.data.toList.drop i) k := by
    intro k hk1
    rw [hds, hdt, hk]
    exact tlen_stop _ _ _ _ _ hne hk1
  have hhit : ∀ k, k ≠ 1 → hit t i k = hit s i k := by
    intro k hk1
    rw [hit_l, hit_l]
    unfold hitL
    rw [hlen k hk1, hds, hdt]
    cases hp : p.drop i with
    | nil => exact absurd hp hne
    | cons c r => rfl
  have hend : ∀ k, k ≠ 1 → tokEnd t i k = tokEnd s i k := by
    intro k hk1
    rw [tokEnd_l, tokEnd_l, hlen k hk1]
  obtain ⟨c, r, hp⟩ : ∃ c r, p.drop i = c :: r := by
    cases hp : p.drop i with
    | nil => exact absurd hp hne
    | cons c r => exact ⟨c, r, rfl⟩
  have hrl : r.length + 1 = p.length - i := by have := congrArg List.length hp; rw [List.length_drop] at this; simp at this; omega
  rw [hp] at hds hdt
  rcases cd_stop (91 :: (old ++ z)) (91 :: (new ++ z)) c r hx with e | e
  · have h1 : tlen (keepsB t i) (t.data.toList.drop i) 1 = tlen (keepsB s i) (s.data.toList.drop i) 1 := by
      rw [hds, hdt]; exact e.symm
    have hall : ∀ k, hit t i k = hit s i k := by
      intro k
      by_cases hk1 : k = 1
      · subst hk1
        rw [hit_l, hit_l]
        unfold hitL
        rw [h1, hds, hdt]
        rfl
      · exact hhit k hk1
    refine ⟨firstK_congr 6 0 (fun k _ _ => hall k), fun k _ => ?_⟩
    by_cases hk1 : k = 1
    · subst hk1; rw [tokEnd_l, tokEnd_l, h1]
    · exact hend k hk1
  · -- code would go beyond the link: then no token of this kind begins here
    have hlong : p.length < tokEnd s i 1 := by
      rw [tokEnd_l, hds]
      show p.length < shf i (cdL (c :: r ++ 91 :: 91 :: (old ++ z)))
      unfold shf
      rw [if_neg (by omega)]
      omega
    have hno : c.toNat ≠ 96 := by
      intro e96
      have h0 : hit s i 0 = false := by
        rw [hit_l, hds]; unfold hitL
        have : ((match c :: r ++ 91 :: 91 :: (old ++ z) with | [] => -1 | c :: _ => (c.toNat : Int)) = opB 0) = False := by
          show ((c.toNat : Int) = 92) = False
          rw [e96]; simp
        simp only [this, decide_false, Bool.false_and]
      have h1 : hit s i 1 = true := by
        rw [hit_l, hds]; unfold hitL
        have e1 : ((match c :: r ++ 91 :: 91 :: (old ++ z) with | [] => -1 | c :: _ => (c.toNat : Int)) = opB 1) = True := by
          show ((c.toNat : Int) = 96) = True
          rw [e96]; simp
        have e2 : (0 < tlen (keepsB s i) (c :: r ++ 91 :: 91 :: (old ++ z)) 1) = True := by
          show (0 < cdL (c :: r ++ 91 :: 91 :: (old ++ z))) = True
          exact eq_true (by omega)
        simp only [e1, e2, decide_true, Bool.and_self]
      have hf : firstK (hit s i) 6 0 = some 1 := by
        unfold firstK; rw [h0, if_neg (by decide)]; unfold firstK; rw [h1, if_pos rfl]
      have := hb 1 hf
      omega
    have h1 : hit t i 1 = hit s i 1 := by
      have key : ∀ x : List UInt8, ∀ q, hitL q (c :: r ++ x) 1 = false := by
        intro x q
        unfold hitL
        have e1 : ((match c :: r ++ x with | [] => -1 | c :: _ => (c.toNat : Int)) = opB 1) = False := by
          show ((c.toNat : Int) = 96) = False
          exact eq_false (by omega)
        simp only [e1, decide_false, Bool.false_and]
      rw [hit_l, hit_l, hds, hdt, key, key]
    have hall : ∀ k, hit t i k = hit s i k := by
      intro k
      by_cases hk1 : k = 1
      · subst hk1; exact h1
      · exact hhit k hk1
    refine ⟨firstK_congr 6 0 (fun k _ _ => hall k), fun k hf => ?_⟩
    by_cases hk1 : k = 1
    · subst hk1
      have := hb 1 hf
      omega
    · exact hend k hk1
end twin

theorem toksF_at {s : ByteArray} {x : Tok} {B : List Tok} : ∀ (n i : Nat) (A : List Tok), toksF s n i = A ++ x :: B → firstK (hit s x.from_) 6 0 = some x.kind ∧ x.to_ = tokEnd s x.from_ x.kind ∧ x.from_ < s.size
  | 0, i, A, h => by
    have := congrArg List.length h
    simp [toksF] at this
  | n + 1, i, A, h => by
    unfold toksF at h
    split at h
    · rename_i hi
      split at h
      · rename_i k hk
        cases A with
        | nil =>
          injection h with h1 h2
          subst h1
          exact ⟨hk, rfl, hi⟩
        | cons y A =>
          injection h with h1 h2
          exact toksF_at n _ A h2
      · exact toksF_at n _ A h
    · have := congrArg List.length h
      simp at this
section twin
variable {s t : ByteArray} {p old new z : List UInt8}
theorem Twin.size_s (h : Twin s t p old new z) : s.size = p.length + 2 + old.length + z.length := by rw [Lib.size_eq, h.s]; simp; omega
theorem Twin.size_t (h : Twin s t p old new z) : t.size = p.length + 2 + new.length + z.length := by rw [Lib.size_eq, h.t]; simp; omega
theorem tz_le (z : List UInt8) : tz z ≤ z.length := by
  unfold tz
  split
  · split
    · omega
    · split
      · rename_i h1 h2 h3
        rw [List.isPrefixOf_iff_prefix] at h3
        have := h3.length_le
        rw [List.length_drop] at this
        have e : ([93, 93] : List UInt8).length = 2 := rfl
        omega
      · omega
  · split
    · rename_i h1 h3
      rw [List.isPrefixOf_iff_prefix] at h3
      exact h3.length_le
    · omega
theorem drop_past (p q : List UInt8) (x y : UInt8) (m z : List UInt8) (k : Nat) (h : q = p ++ x :: y :: (m ++ z)) : q.drop (p.length + 2 + m.length + k) = z.drop k := by
  rw [h, show p ++ x :: y :: (m ++ z) = (p ++ x :: y :: m) ++ z by simp]
  rw [show p.length + 2 + m.length + k = (p ++ x :: y :: m).length + k by simp; omega]
  rw [List.drop_append, List.drop_eq_nil_of_le (by omega), List.nil_append, Nat.add_sub_cancel_left]
theorem Twin.past_s (h : Twin s t p old new z) (k : Nat) : s.data.toList.drop (p.length + 2 + old.length + k) = z.drop k := drop_past p _ _ _ old z k h.s
theorem Twin.past_t (h : Twin s t p old new z) (k : Nat) : t.data.toList.drop (p.length + 2 + new.length + k) = z.drop k := drop_past p _ _ _ new z k h.t
def mvT (b b' : Nat) (x : Tok) : Tok := ⟨x.kind, x.from_ - b + b', x.to_ - b + b'⟩
theorem Twin.hit_after (h : Twin s t p old new z) (k m : Nat) (hm : 0 < m) : hit t (p.length + 2 + new.length + m) k = hit s (p.length + 2 + old.length + m) k ∧
    (∀ e, tokEnd s (p.length + 2 + old.length + m) k = p.length + 2 + old.length + m + e → 0 < e → tokEnd t (p.length + 2 + new.length + m) k = p.length + 2 + new.length + m + e) := by
  have hk : keepsB t (p.length + 2 + new.length + m) = keepsB s (p.length + 2 + old.length + m) := by
    rw [keepsB_drop (by omega), keepsB_drop (by omega), show p.length + 2 + new.length + m - 1 = p.length + 2 + new.length + (m - 1) by omega, show p.length + 2 + old.length + m - 1 = p.length + 2 + old.length + (m - 1) by omega, h.past_s, h.past_t]
  refine ⟨by rw [hit_l, hit_l, hk, h.past_s, h.past_t], fun e he h0 => ?_⟩
  rw [tokEnd_l, h.past_s] at he
  rw [tokEnd_l, hk, h.past_t]
  unfold shf at he ⊢
  split at he
  · omega
  · rename_i hne; rw [if_neg hne]; omega
theorem Twin.toks_after (h : Twin s t p old new z) (b b' : Nat) (hb : b = p.length + 2 + old.length + tz z) (hb' : b' = p.length + 2 + new.length + tz z) : ∀ (n j : Nat), toksF t n (b' + j) = (toksF s n (b + j)).map (mvT b b')
  | 0, j => rfl
  | n + 1, j => by
    unfold toksF
    have hs := h.size_s
    have ht := h.size_t
    have hz := tz_le z
    have e1 : b + j = p.length + 2 + old.length + (tz z + j) := by omega
    have e2 : b' + j = p.length + 2 + new.length + (tz z + j) := by omega
    have hh := fun k => h.hit_after k (tz z + j) (by have := h.tail; omega)
    rw [← e1, ← e2] at hh
    have hf : hit t (b' + j) = hit s (b + j) := funext fun k => (hh k).1
    by_cases hlt : b + j < s.size
    · rw [if_pos hlt, if_pos (by omega), hf]
      cases hk : firstK (hit s (b + j)) 6 0 with
      | none => exact h.toks_after b b' hb hb' n (j + 1)
      | some k =>
        have hl := hit_lt (firstK_hit hk).1
        have he := (hh k).2 (tokEnd s (b + j) k - (b + j)) (by omega) (by omega)
        simp only [List.map_cons]
        have i := h.toks_after b b' hb hb' n (tokEnd s (b + j) k - b)
        rw [show b + (tokEnd s (b + j) k - b) = tokEnd s (b + j) k by omega, show b' + (tokEnd s (b + j) k - b) = tokEnd t (b' + j) k by omega] at i
        rw [i]
        congr 1
        unfold mvT
        simp only
        congr 1 <;> omega
    · rw [if_neg hlt, if_neg (by omega)]; rfl
theorem Twin.toks_before (h : Twin s t p old new z) {lk : Tok} {B : List Tok} (hl : lk.from_ = p.length) : ∀ (n i : Nat) (A : List Tok), i ≤ p.length → toksF s n i = A ++ lk :: B →
    ∃ n', n ≤ n' + (p.length - i) ∧ toksF s n' p.length = lk :: B ∧ toksF t n i = A ++ toksF t n' p.length
  | 0, i, A, _, hA => by
    have := congrArg List.length hA
    simp [toksF] at this
  | n + 1, i, A, hi, hA => by
    by_cases hip : i = p.length
    · subst hip
      have hr := toksF_row s (n + 1) p.length
      rw [hA] at hr
      cases A with
      | nil => exact ⟨n + 1, by omega, hA, rfl⟩
      | cons y A =>
        exfalso
        have h1 := hr.1
        have h2 := hr.2.1
        have h3 := (Row.below hr).2 y (by simp)
        omega
    · have hlt : i < p.length := by omega
      have hs := h.size_s
      have ht := h.size_t
      have hr := toksF_row s (n + 1) i
      rw [hA] at hr
      unfold toksF at hA
      rw [if_pos (by omega)] at hA
      have hb : ∀ k, firstK (hit s i) 6 0 = some k → tokEnd s i k ≤ p.length ∧ ∃ A', A = ⟨k, i, tokEnd s i k⟩ :: A' ∧ toksF s n (tokEnd s i k) = A' ++ lk :: B := by
        intro k hk
        rw [hk] at hA
        simp only at hA
        cases A with
        | nil =>
          injection hA with h1 h2
          rw [← h1] at hl
          simp only at hl
          omega
        | cons y A =>
          injection hA with h1 h2
          have h3 := (Row.below hr).2 y (by simp)
          rw [← h1] at h3
          simp only at h3
          exact ⟨by omega, A, by rw [h1], h2⟩
      obtain ⟨f1, f2⟩ := h.first i hlt (fun k hk => (hb k hk).1)
      have hu : toksF t (n + 1) i = match firstK (hit t i) 6 0 with
          | some k => ⟨k, i, tokEnd t i k⟩ :: toksF t n (tokEnd t i k)
          | none => toksF t n (i + 1) := by
        conv => lhs; unfold toksF
        rw [if_pos (by omega)]
        cases firstK (hit t i) 6 0 <;> rfl
      rw [hu, f1]
      cases hk : firstK (hit s i) 6 0 with
      | none =>
        rw [hk] at hA
        obtain ⟨n', g1, g2, g3⟩ := h.toks_before hl n (i + 1) A (by omega) hA
        exact ⟨n', by omega, g2, g3⟩
      | some k =>
        obtain ⟨b1, A', rfl, b3⟩ := hb k hk
        have hl2 := hit_lt (firstK_hit hk).1
        obtain ⟨n', g1, g2, g3⟩ := h.toks_before hl n (tokEnd s i k) A' b1 b3
        refine ⟨n', by omega, g2, ?_⟩
        simp only
        rw [f2 k hk, g3]
        rfl
theorem toks_fuel (s : ByteArray) (n : Nat) (h : s.size ≤ n) : toks s = toksF s n 0 := toksF_fuel s _ _ _ (by omega) (by omega)
theorem tlen2 (q : Bool) (l : List UInt8) : tlen q l 2 = lkL l := by unfold tlen; rw [if_neg (by decide), if_neg (by decide), if_pos rfl]
theorem Twin.toks (h : Twin s t p old new z) {lk : Tok} {A B : List Tok} (hA : toks s = A ++ lk :: B) (hl : lk.from_ = p.length) (hk : lk.kind = 2) :
    lk.to_ = p.length + 2 + old.length + tz z ∧ toks t = A ++ ⟨2, p.length, p.length + 2 + new.length + tz z⟩ :: B.map (mvT (p.length + 2 + old.length + tz z) (p.length + 2 + new.length + tz z)) := by
  have hs := h.size_s
  have ht := h.size_t
  have hz := tz_le z
  rw [toks_fuel s (s.size + t.size) (by omega)] at hA
  obtain ⟨q1, q2, q3⟩ := toksF_at _ _ _ hA
  rw [hk] at q1 q2
  rw [hl] at q1 q2
  have hd0 : s.data.toList.drop p.length = 91 :: 91 :: (old ++ z) := by rw [h.drop_s _ (Nat.le_refl _), List.drop_length]; rfl
  have ht0 : t.data.toList.drop p.length = 91 :: 91 :: (new ++ z) := by rw [h.drop_t _ (Nat.le_refl _), List.drop_length]; rfl
  have e1 : tokEnd s p.length 2 = p.length + 2 + old.length + tz z := by
    rw [tokEnd_l, hd0]
    rw [tlen2, lk_all h.old h.tail]; unfold shf; rw [if_neg (by omega)]; omega
  have e2 : tokEnd t p.length 2 = p.length + 2 + new.length + tz z := by
    rw [tokEnd_l, ht0]
    rw [tlen2, lk_all h.new h.tail]; unfold shf; rw [if_neg (by omega)]; omega
  refine ⟨by rw [q2, e1], ?_⟩
  obtain ⟨n', g1, g2, g3⟩ := h.toks_before hl (s.size + t.size) 0 A (Nat.zero_le _) hA
  rw [toks_fuel t (s.size + t.size) (by omega), g3]
  congr 1
  obtain ⟨m, hm⟩ : ∃ m, n' = m + 1 := ⟨n' - 1, by omega⟩
  subst hm
  unfold toksF at g2 ⊢
  rw [if_pos (by omega), q1] at g2
  simp only at g2
  injection g2 with g4 g5
  have f0 : firstK (hit t p.length) 6 0 = some 2 := by
    have key : ∀ k, hit t p.length k = (decide ((91 : Int) = opB k) && decide (0 < tlen (keepsB t p.length) (91 :: 91 :: (new ++ z)) k)) := fun k => by rw [hit_l, ht0]; rfl
    have h2 : (decide (0 < tlen (keepsB t p.length) (91 :: 91 :: (new ++ z)) 2)) = true := by
      rw [tlen2, lk_all h.new h.tail]; exact decide_eq_true (by omega)
    unfold firstK
    rw [key 0, show (decide ((91 : Int) = opB 0)) = false from rfl, Bool.false_and, if_neg (by decide)]
    unfold firstK
    rw [key 1, show (decide ((91 : Int) = opB 1)) = false from rfl, Bool.false_and, if_neg (by decide)]
    unfold firstK
    rw [key 2, show (decide ((91 : Int) = opB 2)) = true from rfl, Bool.true_and, h2, if_pos rfl]
  rw [if_pos (by omega), f0]
  simp only
  rw [e2]
  congr 1
  have := h.toks_after _ _ rfl rfl m 0
  simp only [Nat.add_zero] at this
  rw [this, ← g5, e1]
end twin

/-! ### The spans -/
def spF (s : ByteArray) (P : Nat) : Nat → Nat → List Tok → List Sp
  | seen, done, [] => plainTo s ⟨[], seen, done⟩ s.size
  | seen, done, t :: r => if t.kind = 5 ∧ seen = P then spF s P seen done r
    else plainTo s ⟨[], seen, done⟩ t.from_ ++ { spOf s t with strong := decide (seen % 2 = 1 ∨ t.kind = 5) } :: spF s P (if t.kind = 5 then seen + 1 else seen) t.to_ r
theorem plainTo_out (s : ByteArray) (st : SpSt) (b : Nat) : plainTo s st b = st.out ++ plainTo s ⟨[], st.seen, st.done⟩ b := by
  unfold plainTo
  split <;> simp
theorem spF_fold (s : ByteArray) (P : Nat) : ∀ (l : List Tok) (st : SpSt), plainTo s (l.foldl (stepTok s P) st) s.size = st.out ++ spF s P st.seen st.done l
  | [], st => plainTo_out s st s.size
  | t :: r, st => by
    rw [List.foldl_cons, spF_fold s P r]
    unfold stepTok
    conv => rhs; unfold spF
    by_cases h : t.kind = 5 ∧ st.seen = P
    · rw [if_pos h, if_pos h]
    · rw [if_neg h, if_neg h]
      simp only
      rw [plainTo_out s st t.from_]
      simp
theorem spans_spF (s : ByteArray) : spans s = spF s (partnersOf s) 0 0 (toks s) := by
  unfold spans stAfter
  rw [spF_fold]
  rfl
theorem plain_kind {s : ByteArray} {seen done b : Nat} : ∀ x ∈ plainTo s ⟨[], seen, done⟩ b, x.kind = 1 := by
  intro x hx
  unfold plainTo at hx
  split at hx
  · simp at hx; rw [hx]; rfl
  · simp at hx
theorem spOf_link {s : ByteArray} {t : Tok} (h : (spOf s t).kind = 4) : t.kind = 2 := by
  unfold spOf at h
  split at h
  · exact absurd h (by simp)
  · split at h
    · exact absurd h (by simp)
    · split at h
      · assumption
      · split at h
        · exact absurd h (by simp)
        · split at h <;> exact absurd h (by simp)
/-- Strings that are the same up to a place. -/
def SameTo (a : Nat) (s t : ByteArray) : Prop := ∀ i j, j ≤ a → t.extract i j = s.extract i j
theorem spOf_same {a : Nat} {s t : ByteArray} (h : SameTo a s t) {x : Tok} (hx : x.to_ ≤ a) : spOf t x = spOf s x := by
  unfold spOf
  rw [h (x.from_ + 1) x.to_ hx, h (x.from_ + 1) (x.to_ - 1) (by omega), h (x.from_ + 2) (x.to_ - 2) (by omega), h x.from_ x.to_ hx]
theorem plain_same {a : Nat} {s t : ByteArray} (h : SameTo a s t) {seen done b : Nat} (hb : b ≤ a) : plainTo t ⟨[], seen, done⟩ b = plainTo s ⟨[], seen, done⟩ b := by
  unfold plainTo plainSp
  simp only
  rw [h done b hb]
theorem app_left {α : Type} {Q M SA SB : List α} {x : α} (h : Q ++ M = SA ++ x :: SB) (hx : x ∉ Q) : ∃ a', SA = Q ++ a' ∧ M = a' ++ x :: SB := by
  rcases List.append_eq_append_iff.1 h with ⟨a', h1, h2⟩ | ⟨c', h1, h2⟩
  · exact ⟨a', h1, h2⟩
  · cases c' with
    | nil => exact ⟨[], by rw [h1]; simp, by rw [h2]; simp⟩
    | cons y c' =>
      injection h2 with h3 h4
      exact absurd (by rw [h1, h3]; simp) hx
/-- A link among the spans comes of a token; before it all is the same in a string that is the same so far. -/
theorem spF_split (s : ByteArray) (P : Nat) : ∀ (l : List Tok) (seen done : Nat) (SA SB : List Sp) (x : Sp), Row done l → spF s P seen done l = SA ++ x :: SB → x.kind = 4 →
    ∃ A lk B seen', l = A ++ lk :: B ∧ lk.kind = 2 ∧ x = { spOf s lk with strong := decide (seen' % 2 = 1) } ∧ SB = spF s P seen' lk.to_ B ∧
      ∀ t, SameTo lk.from_ s t → ∀ lk' B', lk'.kind = 2 → lk'.from_ = lk.from_ → spF t P seen done (A ++ lk' :: B') = SA ++ { spOf t lk' with strong := decide (seen' % 2 = 1) } :: spF t P seen' lk'.to_ B'
  | [], seen, done, SA, SB, x, _, h, hx => by
    exfalso
    have := plain_kind (s := s) (seen := seen) (done := done) (b := s.size) x (by rw [show plainTo s ⟨[], seen, done⟩ s.size = SA ++ x :: SB from h]; simp)
    omega
  | t0 :: r, seen, done, SA, SB, x, hr, h, hx => by
    unfold spF at h
    by_cases hs : t0.kind = 5 ∧ seen = P
    · rw [if_pos hs] at h
      obtain ⟨A, lk, B, seen', e1, e2, e3, e4, e5⟩ := spF_split s P r seen done SA SB x (hr.2.2.mono (by have := hr.1; have := hr.2.1; omega)) h hx
      refine ⟨t0 :: A, lk, B, seen', by rw [e1]; rfl, e2, e3, e4, fun t ht lk' B' h1 h2 => ?_⟩
      rw [List.cons_append]
      conv => lhs; unfold spF
      rw [if_pos hs]
      exact e5 t ht lk' B' h1 h2
    · rw [if_neg hs] at h
      obtain ⟨a', h1, h2⟩ := app_left h (fun hm => by have := plain_kind _ hm; omega)
      · cases a' with
        | nil =>
          injection h2 with h3 h4
          have hk : t0.kind = 2 := spOf_link (s := s) (by have : ({ spOf s t0 with strong := decide (seen % 2 = 1 ∨ t0.kind = 5) } : Sp).kind = 4 := by rw [h3]; exact hx
                                                          exact this)
          have e5 : decide (seen % 2 = 1 ∨ t0.kind = 5) = decide (seen % 2 = 1) := by rw [hk]; simp
          refine ⟨[], t0, r, seen, rfl, hk, by rw [← h3, e5], by rw [← h4, if_neg (by omega)], fun t ht lk' B' g1 g2 => ?_⟩
          rw [List.nil_append]
          conv => lhs; unfold spF
          rw [if_neg (by omega), if_neg (by omega), g1, g2, plain_same ht (Nat.le_refl _), h1, List.append_nil]
          simp
        | cons y a' =>
          injection h2 with h3 h4
          obtain ⟨A, lk, B, seen', e1, e2, e3, e4, e5⟩ := spF_split s P r _ t0.to_ a' SB x hr.2.2 h4 hx
          have hrow : Row t0.to_ (A ++ lk :: B) := by rw [← e1]; exact hr.2.2
          have hle := (Row.below hrow).1
          have hlt := hr.2.1
          refine ⟨t0 :: A, lk, B, seen', by rw [e1]; rfl, e2, e3, e4, fun t ht lk' B' g1 g2 => ?_⟩
          rw [List.cons_append]
          conv => lhs; unfold spF
          rw [if_neg hs, e5 t ht lk' B' g1 g2, plain_same ht (by omega), spOf_same ht hle, h1, ← h3]
          simp

/-- A span without its place. -/
def bare (x : Sp) : Sp := { x with from_ := 0, to_ := 0 }
theorem bare_eq {x y : Sp} (h : bare x = bare y) : x.kind = y.kind ∧ x.text = y.text ∧ x.shw = y.shw ∧ x.id = y.id ∧ x.strong = y.strong := by
  obtain ⟨a1, a2, a3, a4, a5, a6, a7⟩ := x
  obtain ⟨b1, b2, b3, b4, b5, b6, b7⟩ := y
  simp only [bare, Sp.mk.injEq] at h
  exact ⟨h.1, h.2.2.2.1, h.2.2.2.2.1, h.2.2.2.2.2.1, h.2.2.2.2.2.2⟩
section twin
variable {s t : ByteArray} {p old new z : List UInt8}
theorem Twin.ext_after (h : Twin s t p old new z) {b b' : Nat} (hb : b = p.length + 2 + old.length + tz z) (hb' : b' = p.length + 2 + new.length + tz z) (i j : Nat) (hi : b ≤ i) : t.extract (i - b + b') (j - b + b') = s.extract i j := by
  rw [ext_bl, ext_bl, show i - b + b' = p.length + 2 + new.length + (tz z + (i - b)) by omega, h.past_t]
  rw [show i = p.length + 2 + old.length + (tz z + (i - b)) by omega, h.past_s]
  by_cases hj : b ≤ j
  · rw [show j - b + b' - (p.length + 2 + new.length + (tz z + (p.length + 2 + old.length + (tz z + (i - b)) - b))) = j - (p.length + 2 + old.length + (tz z + (i - b))) by omega, show p.length + 2 + old.length + (tz z + (i - b)) - b = i - b by omega]
  · rw [show j - b + b' - (p.length + 2 + new.length + (tz z + (p.length + 2 + old.length + (tz z + (i - b)) - b))) = 0 by omega, show j - (p.length + 2 + old.length + (tz z + (i - b))) = 0 by omega, List.take_zero, List.take_zero]
theorem Twin.spOf_after (h : Twin s t p old new z) {b b' : Nat} (hb : b = p.length + 2 + old.length + tz z) (hb' : b' = p.length + 2 + new.length + tz z) (x : Tok) (hx : b ≤ x.from_) (hok : TokOk s x) : bare (spOf t (mvT b b' x)) = bare (spOf s x) := by
  have e1 := h.ext_after hb hb' (x.from_ + 1) x.to_ (by omega)
  have e2 := h.ext_after hb hb' (x.from_ + 1) (x.to_ - 1) (by omega)
  have e3 := h.ext_after hb hb' (x.from_ + 2) (x.to_ - 2) (by omega)
  have e4 := h.ext_after hb hb' x.from_ x.to_ (by omega)
  have hlt := hok.lt
  have h2 := hok.two
  rw [show x.from_ + 1 - b + b' = x.from_ - b + b' + 1 by omega] at e1 e2
  rw [show x.from_ + 2 - b + b' = x.from_ - b + b' + 2 by omega] at e3
  unfold spOf mvT
  simp only
  by_cases k0 : x.kind = 0
  · rw [if_pos k0, if_pos k0, e1]; rfl
  · rw [if_neg k0, if_neg k0]
    by_cases k1 : x.kind = 1
    · rw [if_pos k1, if_pos k1]
      rw [show x.to_ - 1 - b + b' = x.to_ - b + b' - 1 by have := h2 (.inl k1); omega] at e2
      rw [e2]; rfl
    · rw [if_neg k1, if_neg k1]
      by_cases k2 : x.kind = 2
      · rw [if_pos k2, if_pos k2]
        rw [show x.to_ - 2 - b + b' = x.to_ - b + b' - 2 by have := h2 (.inr (.inl k2)); omega] at e3
        rw [e3]; rfl
      · rw [if_neg k2, if_neg k2]
        by_cases k3 : x.kind = 3
        · rw [if_pos k3, if_pos k3]
          rw [show x.to_ - 2 - b + b' = x.to_ - b + b' - 2 by have := h2 (.inr (.inr k3)); omega] at e3
          rw [e3]; rfl
        · rw [if_neg k3, if_neg k3]
          by_cases k4 : x.kind = 4
          · rw [if_pos k4, if_pos k4, e1]; rfl
          · rw [if_neg k4, if_neg k4, e4]; rfl
theorem Twin.plain_after (h : Twin s t p old new z) {b b' : Nat} (hb : b = p.length + 2 + old.length + tz z) (hb' : b' = p.length + 2 + new.length + tz z) (seen done c : Nat) (hd : b ≤ done) :
    (plainTo t ⟨[], seen, done - b + b'⟩ (c - b + b')).map bare = (plainTo s ⟨[], seen, done⟩ c).map bare := by
  unfold plainTo
  simp only
  by_cases hlt : done < c
  · rw [if_pos hlt, if_pos (by omega)]
    unfold plainSp
    rw [h.ext_after hb hb' done c hd]
    rfl
  · rw [if_neg hlt, if_neg (by omega)]
theorem Twin.spF_after (h : Twin s t p old new z) {b b' : Nat} (hb : b = p.length + 2 + old.length + tz z) (hb' : b' = p.length + 2 + new.length + tz z) (P : Nat) : ∀ (B : List Tok) (seen done : Nat), b ≤ done → Row done B → (∀ x ∈ B, TokOk s x) →
    (spF t P seen (done - b + b') (B.map (mvT b b'))).map bare = (spF s P seen done B).map bare
  | [], seen, done, hd, _, _ => by
    have hs := h.size_s
    have ht := h.size_t
    have hz := tz_le z
    show (plainTo t ⟨[], seen, done - b + b'⟩ t.size).map bare = (plainTo s ⟨[], seen, done⟩ s.size).map bare
    rw [← h.plain_after hb hb' seen done s.size hd, show s.size - b + b' = t.size by omega]
  | x :: r, seen, done, hd, hr, hok => by
    have hx := hok x (by simp)
    have h1 := hr.1
    have h2 := hr.2.1
    rw [List.map_cons]
    unfold spF
    have hk : (mvT b b' x).kind = x.kind := rfl
    rw [hk]
    by_cases hs : x.kind = 5 ∧ seen = P
    · rw [if_pos hs, if_pos hs]
      exact h.spF_after hb hb' P r seen done hd (hr.2.2.mono (by omega)) (fun y hy => hok y (by simp [hy]))
    · rw [if_neg hs, if_neg hs, List.map_append, List.map_append, List.map_cons, List.map_cons]
      have e1 := h.plain_after hb hb' seen done x.from_ hd
      have e2 := h.spOf_after hb hb' x (by omega) hx
      have e3 := h.spF_after hb hb' P r (if x.kind = 5 then seen + 1 else seen) x.to_ (by omega) hr.2.2 (fun y hy => hok y (by simp [hy]))
      show List.map bare (plainTo t ⟨[], seen, done - b + b'⟩ (x.from_ - b + b')) ++ _ = _
      rw [e1, show (mvT b b' x).to_ = x.to_ - b + b' from rfl, e3]
      congr 2
      obtain ⟨g1, g2, g3, g4, g5⟩ := bare_eq e2
      unfold bare
      simp only [g1, g2, g3, g4]
theorem Twin.same (h : Twin s t p old new z) : SameTo p.length s t := by
  intro i j hj
  rw [ext_bl, ext_bl, h.s, h.t]
  congr 1
  by_cases hi : i ≤ p.length
  · rw [List.drop_append_of_le_length hi, List.drop_append_of_le_length hi, List.take_append_of_le_length (by rw [List.length_drop]; omega), List.take_append_of_le_length (by rw [List.length_drop]; omega)]
  · rw [show j - i = 0 by omega, List.take_zero, List.take_zero]
end twin
/-- What a link says, and what it shows. -/
theorem cut_content {m z : List UInt8} (hm : isTgt (bl m) = true) (hz : 0 < tz z) : cutL (bl (m ++ z.take (tz z - 2))) = bl m ∧ cutR (bl (m ++ z.take (tz z - 2))) = bl ((z.take (tz z - 2)).drop 1) := by
  have hno : (124 : UInt8) ∉ m := fun h => absurd (isTgt_mem hm _ h) (by decide)
  obtain ⟨c, r, rfl, hc⟩ := tz_head hz
  have hsz : (bl (m ++ (c :: r).take (tz (c :: r) - 2))).size = m.length + ((c :: r).take (tz (c :: r) - 2)).length := by rw [Lib.size_eq]; show (m ++ _).length = _; simp
  rcases hc with rfl | rfl
  · have h3 : 3 ≤ tz (124 :: r) := by
      unfold tz at hz ⊢
      rw [if_pos (by simp [List.isPrefixOf])] at hz ⊢
      split at hz
      · omega
      · split at hz
        · rename_i h1 h2; rw [if_neg h1, if_pos h2]; omega
        · omega
    obtain ⟨n, hn⟩ : ∃ n, tz (124 :: r) - 2 = n + 1 := ⟨tz (124 :: r) - 3, by omega⟩
    rw [hn, List.take_succ_cons] at hsz ⊢
    have hbar : bar (bl (m ++ 124 :: r.take n)) = m.length := by
      show Lib.indexByte (m ++ 124 :: r.take n) 124 = m.length
      clear hsz hz h3 hn hm
      induction m with
      | nil => rfl
      | cons d m ih =>
        have hd : ¬ (d == 124) = true := fun e => hno (by rw [beq_iff_eq] at e; simp [e])
        rw [List.cons_append]
        unfold Lib.indexByte
        rw [if_neg hd, ih (fun e => hno (by simp [e])), if_neg (by simp)]
        simp
    unfold cutL cutR
    rw [hbar, if_pos (by omega), if_pos (by omega), ext_bl, ext_bl, hsz]
    constructor
    · congr 1
      show ((m ++ 124 :: r.take n).drop 0).take ((m.length : Int).toNat - 0) = m
      rw [List.drop_zero, Int.toNat_natCast, Nat.sub_zero, List.take_left]
    · congr 1
      show ((m ++ 124 :: r.take n).drop ((m.length : Int).toNat + 1)).take _ = r.take n
      rw [Int.toNat_natCast, show m.length + 1 = m.length + 1 from rfl, ← List.drop_drop, List.drop_left]
      show (r.take n).take _ = r.take n
      exact List.take_of_length_le (by simp; omega)
  · have h2 : tz (93 :: r) = 2 := by
      unfold tz at hz ⊢
      rw [if_neg (by simp [List.isPrefixOf])] at hz ⊢
      split at hz
      · rename_i h; rw [if_pos h]
      · omega
    rw [h2]
    have hbar : bar (bl (m ++ (93 :: r).take (2 - 2))) = -1 := by
      show Lib.indexByte (m ++ []) 124 = -1
      rw [List.append_nil]
      clear hsz hz h2 hm
      induction m with
      | nil => rfl
      | cons d m ih =>
        have hd : ¬ (d == 124) = true := fun e => hno (by rw [beq_iff_eq] at e; simp [e])
        unfold Lib.indexByte
        rw [if_neg hd, ih (fun e => hno (by simp [e]))]
        rfl
    unfold cutL cutR
    rw [hbar, if_neg (by omega), if_neg (by omega)]
    refine ⟨?_, rfl⟩
    show bl (m ++ []) = bl m
    rw [List.append_nil]

def links4 (l : List Sp) : Nat := (l.filter fun x => x.kind == 4).length
theorem links4_cons (x : Sp) (l : List Sp) : links4 (x :: l) = (if x.kind = 4 then 1 else 0) + links4 l := by
  unfold links4
  rw [List.filter_cons]
  by_cases h : x.kind = 4
  · rw [if_pos (by simp [h]), if_pos h, List.length_cons]; omega
  · rw [if_neg (by simp [h]), if_neg h]; omega
theorem rt_split (lk : Int) : ∀ (l : List Sp) (st : Sp × Nat), lk < (l.foldl (rtStep lk) st).2 →
    (lk < st.2 ∧ (l.foldl (rtStep lk) st).1 = st.1) ∨ ∃ SA SB, l = SA ++ (l.foldl (rtStep lk) st).1 :: SB ∧ ((st.2 + links4 SA : Nat) : Int) = lk ∧ (l.foldl (rtStep lk) st).1.kind = 4
  | [], st, h => .inl ⟨h, rfl⟩
  | x :: l, st, h => by
    rw [List.foldl_cons] at h ⊢
    rcases rt_split lk l (rtStep lk st x) h with ⟨h1, h2⟩ | ⟨SA, SB, h1, h2, h3⟩
    · rw [h2]
      unfold rtStep at h1 ⊢
      by_cases hk : x.kind = 4
      · rw [if_pos hk] at h1 ⊢
        simp only at h1 ⊢
        by_cases he : (st.2 : Int) = lk
        · right
          rw [if_pos he]
          exact ⟨[], l, rfl, by rw [show links4 [] = 0 from rfl, Nat.add_zero]; exact he, hk⟩
        · left
          rw [if_neg he]
          exact ⟨by omega, rfl⟩
      · rw [if_neg hk] at h1 ⊢
        exact .inl ⟨h1, rfl⟩
    · right
      refine ⟨x :: SA, SB, by rw [List.cons_append, ← h1], ?_, h3⟩
      rw [links4_cons]
      unfold rtStep at h2
      by_cases hk : x.kind = 4
      · rw [if_pos hk] at h2
        rw [if_pos hk]
        simp only at h2
        omega
      · rw [if_neg hk] at h2
        rw [if_neg hk]
        omega
theorem stars_kinds {l m : List Tok} (h : l.map (·.kind) = m.map (·.kind)) : stars l = stars m := by
  have key : ∀ l : List Tok, stars l = ((l.map (·.kind)).filter (· == 5)).length := by
    intro l
    unfold stars
    induction l with
    | nil => rfl
    | cons x l ih =>
      rw [List.map_cons, List.filter_cons, List.filter_cons]
      split <;> simp [ih]
  rw [key, key, h]
def ledTo (s : ByteArray) (x : Sp) (nw : ByteArray) : ByteArray := s.extract 0 (x.from_ + 2) ++ nw ++ s.extract (x.from_ + 2 + x.text.size) s.size
/-- Retarget leaves all spans but the link's target, and the places behind it. -/
theorem led_spans (s nw : ByteArray) (lk : Int) (h0 : 0 ≤ lk) (hl : lk < (rtAll lk (spans s)).2) (hn : isTgt nw = true) :
    ∃ SA x SB x' SB', spans s = SA ++ x :: SB ∧ (links4 SA : Int) = lk ∧ x.kind = 4 ∧ x = (rtAll lk (spans s)).1 ∧ isTgt x.text = true ∧ spans (ledTo s x nw) = SA ++ x' :: SB' ∧ bare x' = bare { x with text := nw } ∧ SB'.map bare = SB.map bare := by
  rcases rt_split lk (spans s) (zeroSp, 0) hl with ⟨h1, _⟩ | ⟨SA, SB, h1, h2, h3⟩
  · simp at h1; omega
  · have hx : ((spans s).foldl (rtStep lk) (zeroSp, 0)).1 = (rtAll lk (spans s)).1 := rfl
    rw [hx] at h1 h3
    obtain ⟨x, hxx⟩ : ∃ x, x = (rtAll lk (spans s)).1 := ⟨_, rfl⟩
    rw [← hxx] at h1 h3
    have hrow : Row 0 (toks s) := toksF_row s s.size 0
    rw [spans_spF] at h1
    obtain ⟨A, tk, B, seen', e1, e2, e3, e4, e5⟩ := spF_split s _ _ _ _ SA SB x hrow h1 h3
    obtain ⟨q1, q2, q3⟩ := toksF_at s.size 0 A e1
    rw [e2] at q1 q2
    have hhit := (firstK_hit q1).1
    rw [hit_l] at hhit
    unfold hitL at hhit
    rw [Bool.and_eq_true, decide_eq_true_eq, decide_eq_true_eq, tlen2] at hhit
    obtain ⟨old, z, p1, p2, p3⟩ := lk_parts hhit.2
    have hU : s.data.toList = s.data.toList.take tk.from_ ++ 91 :: 91 :: (old ++ z) := by rw [← p1, List.take_append_drop]
    have hp : (s.data.toList.take tk.from_).length = tk.from_ := by rw [List.length_take, ← Lib.size_eq]; omega
    obtain ⟨p, hpp⟩ : ∃ p, p = s.data.toList.take tk.from_ := ⟨_, rfl⟩
    rw [← hpp] at hU hp
    have hto : tk.to_ = p.length + 2 + old.length + tz z := by
      rw [q2, tokEnd_l, p1, tlen2, lk_all p2 p3]; unfold shf; rw [if_neg (by omega)]; omega
    have hcont : ∀ (u : ByteArray) (m : List UInt8), u.data.toList = p ++ 91 :: 91 :: (m ++ z) → u.extract (p.length + 2) (p.length + 2 + m.length + tz z - 2) = bl (m ++ z.take (tz z - 2)) := by
      intro u m hu
      have ht2 : 2 ≤ tz z := by
        have := p3
        unfold tz at this ⊢
        split at this
        · split at this
          · omega
          · split at this
            · rename_i g1 g2 g3; rw [if_pos g1, if_neg g2, if_pos g3]; omega
            · omega
        · split at this
          · rename_i g1 g2; rw [if_neg g1, if_pos g2]; omega
          · omega
      rw [ext_bl]
      congr 1
      have hd : u.data.toList.drop (p.length + 2) = m ++ z := by
        rw [hu, List.drop_append, List.drop_eq_nil_of_le (by omega), List.nil_append, Nat.add_sub_cancel_left]; rfl
      rw [hd, show p.length + 2 + m.length + tz z - 2 - (p.length + 2) = m.length + (tz z - 2) by omega, List.take_append]
      congr 1
      · exact List.take_of_length_le (by omega)
      · congr 1; omega
    have hxf : x.from_ = p.length := by rw [e3, hp]; unfold spOf; rw [if_neg (by omega), if_neg (by omega), if_pos e2]
    have hxt : x.text = bl old ∧ x.shw = bl ((z.take (tz z - 2)).drop 1) ∧ x.id = 0 ∧ x.strong = decide (seen' % 2 = 1) := by
      have hsp : spOf s tk = ⟨4, tk.from_, tk.to_, cutL (s.extract (tk.from_ + 2) (tk.to_ - 2)), cutR (s.extract (tk.from_ + 2) (tk.to_ - 2)), 0, false⟩ := by
        unfold spOf; rw [if_neg (by omega), if_neg (by omega), if_pos e2]
      rw [e3, hsp]
      simp only
      rw [hto, ← hp, hcont s old hU, (cut_content p2 p3).1, (cut_content p2 p3).2]
      exact ⟨rfl, rfl, trivial, trivial⟩
    have hnw : bl nw.data.toList = nw := rfl
    have hsz : x.text.size = old.length := by rw [hxt.1]; rfl
    have hT : Twin s (ledTo s x nw) p old nw.data.toList z := by
      refine ⟨hU, ?_, p2, by rw [hnw]; exact hn, p3⟩
      have hap : ∀ a b : ByteArray, (a ++ b).data.toList = a.data.toList ++ b.data.toList := fun a b => by simp
      unfold ledTo
      rw [hap, hap, Lib.extract_data, Lib.extract_data, hxf, hsz, List.drop_zero, Nat.sub_zero]
      have g1 : s.data.toList.take (p.length + 2) = p ++ [91, 91] := by
        rw [hU, List.take_append, List.take_of_length_le (by omega), Nat.add_sub_cancel_left]; rfl
      have g2 : s.data.toList.drop (p.length + 2 + old.length) = z := by
        have := drop_past p s.data.toList 91 91 old z 0 hU
        simpa using this
      rw [g1, g2, List.take_of_length_le (by rw [Lib.size_eq, hU]; simp; omega)]
      simp
    obtain ⟨t1, t2⟩ := hT.toks e1 hp.symm e2
    have hP : partnersOf (ledTo s x nw) = partnersOf s := by
      unfold partnersOf
      rw [stars_kinds (l := toks (ledTo s x nw)) (m := toks s) (by
        rw [t2, e1, List.map_append, List.map_append, List.map_cons, List.map_cons, List.map_map, e2]
        rfl)]
    refine ⟨SA, x, SB, ?_, ?_, by rw [spans_spF]; exact h1, by simpa using h2, h3, hxx, by rw [hxt.1]; exact p2, ?_, ?_, ?_⟩
    · exact { spOf (ledTo s x nw) ⟨2, p.length, p.length + 2 + nw.data.toList.length + tz z⟩ with strong := decide (seen' % 2 = 1) }
    · exact spF (ledTo s x nw) (partnersOf s) seen' (p.length + 2 + nw.data.toList.length + tz z) (B.map (mvT (p.length + 2 + old.length + tz z) (p.length + 2 + nw.data.toList.length + tz z)))
    · rw [spans_spF, hP, t2]
      exact e5 (ledTo s x nw) (by rw [← hp]; exact hT.same) ⟨2, p.length, p.length + 2 + nw.data.toList.length + tz z⟩ _ rfl hp
    · have hsp : spOf (ledTo s x nw) ⟨2, p.length, p.length + 2 + nw.data.toList.length + tz z⟩ = ⟨4, p.length, p.length + 2 + nw.data.toList.length + tz z, nw, bl ((z.take (tz z - 2)).drop 1), 0, false⟩ := by
        unfold spOf
        rw [if_neg (by simp), if_neg (by simp), if_pos rfl]
        simp only
        rw [hcont _ nw.data.toList hT.t, (cut_content hT.new p3).1, (cut_content hT.new p3).2]
        rfl
      rw [hsp]
      unfold bare
      simp only [h3, hxt.2.1, hxt.2.2.1, hxt.2.2.2]
    · rw [e4]
      have hr : Row tk.to_ B := by rw [e1] at hrow; exact Row.after hrow
      have := hT.spF_after rfl rfl (partnersOf s) B seen' tk.to_ (by omega) hr (fun y hy => toksF_ok s s.size 0 y (by show y ∈ toks s; rw [e1]; simp [hy]))
      rw [hto] at this ⊢
      rw [← this, Nat.sub_self, Nat.zero_add]
end Go.Proofs.YtdhaanlgijikeaaDoor
