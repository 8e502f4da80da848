/- Package text, excerpts: how both sides cut a list of bytes behind a word. No program, no world. -/
import Derived.Lib.TrimByte
import Derived.Lib.LastIndexByte
namespace Go.Proofs.YtjfpaahidfhkoaaGreatDoor
open Go

/-- The reference's cut: the greatest k from 1 to m that stands at a space and behind a byte that is none; 0 if there is none. -/
def backK (l : List UInt8) : Nat → Nat
  | 0 => 0
  | k + 1 => if l.getD k 0 ≠ 32 ∧ l.getD (k + 1) 0 = 32 then k + 1 else backK l k

theorem backK_le (l : List UInt8) : ∀ m, backK l m ≤ m
  | 0 => Nat.le_refl _
  | k + 1 => by
    unfold backK
    split
    · exact Nat.le_refl _
    · exact Nat.le_succ_of_le (backK_le l k)

/-- At a space, where the first byte is none. -/
theorem backK_space (l : List UInt8) (h0 : l.getD 0 0 ≠ 32) : ∀ m, l.getD m 0 = 32 → 0 < backK l m ∧ l.getD (backK l m - 1) 0 ≠ 32 ∧ ∀ j, backK l m ≤ j → j ≤ m → l.getD j 0 = 32
  | 0, h => absurd h h0
  | k + 1, h => by
    by_cases hk : l.getD k 0 = 32
    · obtain ⟨h1, h2, h3⟩ := backK_space l h0 k hk
      have e : backK l (k + 1) = backK l k := by
        conv => lhs; unfold backK
        rw [if_neg (fun hh => hh.1 hk)]
      rw [e]
      refine ⟨h1, h2, fun j a b => ?_⟩
      by_cases hj : j = k + 1
      · rw [hj]; exact h
      · exact h3 j a (by omega)
    · have e : backK l (k + 1) = k + 1 := by
        unfold backK
        rw [if_pos ⟨hk, h⟩]
      rw [e]
      refine ⟨Nat.succ_pos _, hk, fun j a b => ?_⟩
      have : j = k + 1 := by omega
      rw [this]; exact h
/-- Over bytes that are no spaces. -/
theorem backK_over (l : List UInt8) (e : Nat) : ∀ m, e ≤ m → (∀ j, e < j → j ≤ m → l.getD j 0 ≠ 32) → backK l m = backK l e
  | 0, h, _ => by
    have : e = 0 := by omega
    rw [this]
  | k + 1, h, hn => by
    by_cases he : e = k + 1
    · rw [he]
    · conv => lhs; unfold backK
      rw [if_neg (fun hh => hn (k + 1) (by omega) (Nat.le_refl _) hh.2)]
      exact backK_over l e k (by omega) (fun j a b => hn j a (by omega))

theorem getD_take (l : List UInt8) {m j : Nat} (h : j < m) : (l.take m).getD j 0 = l.getD j 0 := by
  rw [List.getD_eq_getElem?_getD, List.getD_eq_getElem?_getD, List.getElem?_take, if_pos h]
theorem getD_some {l : List UInt8} {j : Nat} {b : UInt8} (h : l[j]? = some b) : l.getD j 0 = b := by
  rw [List.getD_eq_getElem?_getD, h]; rfl

/-- What is trimmed on the right of a beginning at whose end spaces stand. -/
theorem trim_take (l : List UInt8) {k m : Nat} (hm : m ≤ l.length) (hk : k ≤ m) (h1 : ∀ j, k ≤ j → j < m → l.getD j 0 = 32) (h2 : 0 < k → l.getD (k - 1) 0 ≠ 32) : Lib.trimRightB (l.take m) 32 = l.take k := by
  rw [Lib.trimRightB_take (l.take m) 32 k (by rw [List.length_take]; omega)]
  · rw [List.take_take, Nat.min_eq_left hk]
  · intro j b hj hb
    have hjm : j < m := by
      have := (List.getElem?_eq_some_iff.1 hb).1
      rw [List.length_take] at this; omega
    rw [← getD_some hb, getD_take l hjm]
    exact h1 j hj hjm
  · intro b hk0 hb
    have hjm : k - 1 < m := by omega
    rw [← getD_some hb, getD_take l hjm]
    exact h2 hk0

/-- The reference's excerpt of a trimmed list of bytes. -/
def refEx (l : List UInt8) (m : Nat) : List UInt8 := Lib.trimRightB (if m < l.length then l.take (if backK l m = 0 then m else backK l m) else l) 32
/-- The program's excerpt of a trimmed list of bytes: e is where the last space before m stands. -/
def lastSp (l : List UInt8) (m : Nat) : Int := Lib.lastIndexByte ⟨(l.take m).toArray⟩ 32
def progEx (l : List UInt8) (m : Nat) : List UInt8 :=
  if l.length ≤ m then l else
    if l.getD m 0 = 32 then Lib.trimRightB (l.take m) 32 else
      if lastSp l m < 0 then l.take m else Lib.trimRightB (l.take (lastSp l m).toNat) 32

theorem lastSp_spec (l : List UInt8) (m : Nat) (hm : m ≤ l.length) :
    (lastSp l m = -1 ∧ ∀ j, j < m → l.getD j 0 ≠ 32) ∨ (∃ i : Nat, i < m ∧ lastSp l m = i ∧ l.getD i 0 = 32 ∧ ∀ j, i < j → j < m → l.getD j 0 ≠ 32) := by
  have hz : (⟨(l.take m).toArray⟩ : ByteArray).size = m := by rw [Lib.size_mk, List.length_take]; omega
  have hat : ∀ j, j < m → (((⟨(l.take m).toArray⟩ : ByteArray).data[j]!).toNat : Int) = ((l.getD j 0).toNat : Int) := by
    intro j hj
    rw [← getD_take l hj]
    have hj2 : j < (l.take m).length := by rw [List.length_take]; omega
    rw [List.getD_eq_getElem?_getD, getElem!_pos _ _ (by simpa using hj2)]
    rw [List.getElem?_eq_getElem hj2]
    simp
  have hb : ∀ c : UInt8, ((c.toNat : Int) = 32) ↔ c = 32 := by
    intro c
    constructor
    · intro h
      apply UInt8.toNat_inj.1
      have : c.toNat = 32 := by omega
      rw [this]; rfl
    · rintro rfl; rfl
  unfold lastSp
  rcases Lib.lastIndexByte_spec ⟨(l.take m).toArray⟩ 32 with ⟨h1, h2⟩ | ⟨i, h1, h2, h3, h4⟩
  · refine .inl ⟨h1, fun j hj e => ?_⟩
    refine h2 j (by rw [hz]; exact hj) ?_
    rw [hat j hj, hb]; exact e
  · rw [hz] at h1 h4
    refine .inr ⟨i, h1, h2, ?_, fun j a b e => ?_⟩
    · rw [hat i h1, hb] at h3; exact h3
    · refine h4 j a b ?_
      rw [hat j b, hb]; exact e

/-- Both are the same, where no space stands at either end. -/
theorem ex_eq (l : List UInt8) (m : Nat) (hm : 0 < m) (h0 : l ≠ [] → l.getD 0 0 ≠ 32) (h1 : l ≠ [] → l.getD (l.length - 1) 0 ≠ 32) : refEx l m = progEx l m := by
  unfold refEx progEx
  by_cases hl : l.length ≤ m
  · rw [if_pos hl, if_neg (show ¬ m < l.length by omega)]
    rw [Lib.trimRightB_take l 32 l.length (Nat.le_refl _)]
    · exact List.take_length
    · intro j b hj hb
      have := (List.getElem?_eq_some_iff.1 hb).1
      omega
    · intro b hp hb
      rw [← getD_some hb]
      refine h1 (fun e => ?_)
      rw [e] at hp; simp at hp
  · have hne : l ≠ [] := fun e => by rw [e] at hl; simp at hl
    have h0 := h0 hne
    rw [if_neg hl, if_pos (show m < l.length by omega)]
    have key : ∀ e, e ≤ m → l.getD e 0 = 32 → backK l m = backK l e → Lib.trimRightB (l.take (if backK l m = 0 then m else backK l m)) 32 = Lib.trimRightB (l.take e) 32 := by
      intro e he hs hb
      obtain ⟨a1, a2, a3⟩ := backK_space l h0 e hs
      have a4 := backK_le l e
      rw [hb, if_neg (by omega), trim_take l (k := backK l e) (m := backK l e) (by omega) (Nat.le_refl _) (fun j x y => by omega) (fun _ => a2),
        trim_take l (k := backK l e) (m := e) (by omega) a4 (fun j x y => a3 j x (by omega)) (fun _ => a2)]
    by_cases hs : l.getD m 0 = 32
    · rw [if_pos hs]
      exact key m (Nat.le_refl _) hs rfl
    · rw [if_neg hs]
      rcases lastSp_spec l m (by omega) with ⟨b1, b2⟩ | ⟨i, b1, b2, b3, b4⟩
      · rw [if_pos (show lastSp l m < 0 by omega)]
        have e0 : backK l m = 0 := by
          rw [backK_over l 0 m (Nat.zero_le _) (fun j x y => by
            by_cases hj : j = m
            · rw [hj]; exact hs
            · exact b2 j (by omega))]
          rfl
        rw [e0, if_pos rfl]
        exact trim_take l (by omega) (Nat.le_refl _) (fun j x y => by omega) (fun _ => b2 (m - 1) (by omega))
      · rw [if_neg (show ¬ lastSp l m < 0 by omega), b2, Int.toNat_natCast]
        refine key i (by omega) b3 ?_
        exact backK_over l i m (by omega) (fun j x y => by
          by_cases hj : j = m
          · rw [hj]; exact hs
          · exact b4 j x (by omega))

theorem trimB_ends (q : List UInt8) (c : UInt8) : let l := Lib.trimB q c; (l ≠ [] → l.getD 0 0 ≠ c) ∧ (l ≠ [] → l.getD (l.length - 1) 0 ≠ c) := by
  intro l
  have hdw : ∀ x : List UInt8, x.dropWhile (· == c) ≠ [] → (x.dropWhile (· == c)).getD 0 0 ≠ c := by
    intro x h
    have h1 := List.head_dropWhile_not (· == c) h
    have h2 : (x.dropWhile (· == c)).getD 0 0 = (x.dropWhile (· == c)).head h := by
      rw [List.getD_eq_getElem?_getD, ← List.head?_eq_getElem?, List.head?_eq_some_head h]; rfl
    rw [h2]
    simpa using h1
  refine ⟨fun h => hdw _ h, fun h => ?_⟩
  -- the last byte of l is the last one of trimRightB q c
  have hr : ∀ y : List UInt8, (y.dropWhile (· == c)) ≠ [] → (y.dropWhile (· == c)).getD ((y.dropWhile (· == c)).length - 1) 0 = y.getD (y.length - 1) 0 := by
    intro y
    induction y with
    | nil => intro h; exact absurd rfl h
    | cons a y ih =>
      intro h
      rw [List.dropWhile_cons] at h ⊢
      split
      · rename_i ha
        rw [if_pos ha] at h
        rw [ih h]
        have hy : y ≠ [] := fun e => h (by rw [e]; rfl)
        have hl : 0 < y.length := List.length_pos_iff.2 hy
        rw [List.getD_eq_getElem?_getD, List.getD_eq_getElem?_getD, List.length_cons, Nat.add_sub_cancel]
        rw [show (a :: y)[y.length]? = y[y.length - 1]? by
          obtain ⟨n, hn⟩ : ∃ n, y.length = n + 1 := ⟨y.length - 1, by omega⟩
          rw [hn]; simp]
      · rfl
  have hq : Lib.trimRightB q c ≠ [] := fun e => h (by show Lib.trimLeftB (Lib.trimRightB q c) c = []; rw [e]; rfl)
  have e1 : l.getD (l.length - 1) 0 = (Lib.trimRightB q c).getD ((Lib.trimRightB q c).length - 1) 0 := hr _ h
  rw [e1]
  unfold Lib.trimRightB at hq ⊢
  have hq' : q.reverse.dropWhile (· == c) ≠ [] := fun e => hq (by rw [e]; rfl)
  have h2 := hdw _ hq'
  have hl : 0 < (q.reverse.dropWhile (· == c)).length := List.length_pos_iff.2 hq'
  rw [List.length_reverse, List.getD_eq_getElem?_getD, List.getElem?_reverse (by omega)]
  rw [List.getD_eq_getElem?_getD] at h2
  rw [show (q.reverse.dropWhile (· == c)).length - 1 - ((q.reverse.dropWhile (· == c)).length - 1) = 0 by omega]
  exact h2
end Go.Proofs.YtjfpaahidfhkoaaGreatDoor
