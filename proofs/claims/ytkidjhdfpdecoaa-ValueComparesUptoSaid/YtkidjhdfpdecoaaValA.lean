/- Values as trees, their order, and the stack of lists that are still to be compared. -/
namespace Go.Proofs.Ytkidjhdfpdecoaa.Vals

inductive V where
  | mk (k i t : Int) (s : ByteArray) (l : List V)

/-- -1, 0 or 1. -/
def cmpI (a b : Int) : Int := if a < b then -1 else if b < a then 1 else 0
def cmpS (a b : ByteArray) : Int := if a.data.toList < b.data.toList then -1 else if b.data.toList < a.data.toList then 1 else 0
def orI (a b : Int) : Int := if a = 0 then b else a

def single (k i t : Int) (s : ByteArray) (k' i' t' : Int) (s' : ByteArray) : Int :=
  if k ≠ k' then cmpI k k'
  else if k = 1 ∨ k = 2 ∨ k = 4 then cmpI i i'
  else if k = 5 then orI (cmpI i i') (cmpI t t')
  else if k = 3 ∨ k = 6 then cmpS s s'
  else 0

mutual
def cmpV : V → V → Int
  | .mk k i t s l, .mk k' i' t' s' l' => if k = 7 ∧ k' = 7 then cmpL l l' else single k i t s k' i' t' s'
def cmpL : List V → List V → Int
  | [], [] => 0
  | [], _ :: _ => -1
  | _ :: _, [] => 1
  | x :: xs, y :: ys => orI (cmpV x y) (cmpL xs ys)
end

/-- What a total order's comparison keeps. -/
structure Tot {α : Type} (f : α → α → Int) (a b c : α) : Prop where
  ab : f b a = - f a b
  bc : f c b = - f b c
  ac : f c a = - f a c
  tr : f a b ≤ 0 → f b c ≤ 0 → f a c ≤ 0 ∧ (f a c < 0 ∨ (f a b = 0 ∧ f b c = 0))

theorem cmpI_tot (a b c : Int) : Tot cmpI a b c := by
  constructor <;> unfold cmpI <;> grind
theorem lt_tri (a b : List UInt8) : a < b ∨ a = b ∨ b < a := by
  by_cases h : a < b
  · exact .inl h
  · by_cases g : b < a
    · exact .inr (.inr g)
    · exact .inr (.inl (List.le_antisymm (List.not_lt.1 g) (List.not_lt.1 h)))
theorem cmpS_anti (a b : ByteArray) : cmpS b a = - cmpS a b := by
  unfold cmpS
  generalize a.data.toList = a, b.data.toList = b
  by_cases h : a < b
  · have g := List.lt_asymm h; simp [h, g]
  · by_cases g : b < a <;> simp [h, g]
theorem cmpS_tr (a b c : ByteArray) : cmpS a b ≤ 0 → cmpS b c ≤ 0 → cmpS a c ≤ 0 ∧ (cmpS a c < 0 ∨ (cmpS a b = 0 ∧ cmpS b c = 0)) := by
  unfold cmpS
  generalize a.data.toList = a, b.data.toList = b, c.data.toList = c
  intro h1 h2
  rcases lt_tri a b with h | h | h
  · rcases lt_tri b c with g | g | g
    · have := List.lt_trans h g; simp [this]
    · subst g; simp [h]
    · have := List.lt_asymm g; simp [this, g] at h2
  · subst h
    rcases lt_tri a c with g | g | g
    · simp [g]
    · subst g; simp [List.lt_irrefl]
    · have := List.lt_asymm g; simp [this, g] at h2
  · have := List.lt_asymm h; simp [this, h] at h1
theorem cmpS_tot (a b c : ByteArray) : Tot cmpS a b c := ⟨cmpS_anti _ _, cmpS_anti _ _, cmpS_anti _ _, cmpS_tr a b c⟩

theorem orI_neg (a b : Int) : orI (-a) (-b) = - orI a b := by unfold orI; grind
theorem or_tr {x1 x2 x3 y1 y2 y3 : Int} (hx : x1 ≤ 0 → x2 ≤ 0 → x3 ≤ 0 ∧ (x3 < 0 ∨ (x1 = 0 ∧ x2 = 0))) (hy : y1 ≤ 0 → y2 ≤ 0 → y3 ≤ 0 ∧ (y3 < 0 ∨ (y1 = 0 ∧ y2 = 0))) :
    orI x1 y1 ≤ 0 → orI x2 y2 ≤ 0 → orI x3 y3 ≤ 0 ∧ (orI x3 y3 < 0 ∨ (orI x1 y1 = 0 ∧ orI x2 y2 = 0)) := by
  unfold orI
  intro h1 h2
  grind

theorem single_anti (k i t : Int) (s : ByteArray) (k' i' t' : Int) (s' : ByteArray) : single k' i' t' s' k i t s = - single k i t s k' i' t' s' := by
  unfold single
  have a1 := (cmpI_tot k k' k).ab
  have a2 := (cmpI_tot i i' i).ab
  have a3 := (cmpI_tot t t' t).ab
  have a4 := cmpS_anti s s'
  by_cases h : k = k'
  · subst h
    simp only [ne_eq, not_true, if_false]
    rw [a2, a3, a4, orI_neg]
    repeat' split
    all_goals rfl
  · rw [if_pos h, if_pos (fun e => h e.symm), a1]
theorem single_tr (k i t : Int) (s : ByteArray) (k' i' t' : Int) (s' : ByteArray) (k2 i2 t2 : Int) (s2 : ByteArray) :
    single k i t s k' i' t' s' ≤ 0 → single k' i' t' s' k2 i2 t2 s2 ≤ 0 → single k i t s k2 i2 t2 s2 ≤ 0 ∧ (single k i t s k2 i2 t2 s2 < 0 ∨ (single k i t s k' i' t' s' = 0 ∧ single k' i' t' s' k2 i2 t2 s2 = 0)) := by
  unfold single
  have a2 := (cmpI_tot i i' i2).tr
  have a3 := (cmpI_tot t t' t2).tr
  have a4 := cmpS_tr s s' s2
  have a5 := or_tr a2 a3
  by_cases h : k = k' <;> by_cases g : k' = k2
  · subst h; subst g
    simp only [ne_eq, not_true, if_false]
    split
    · exact a2
    split
    · exact a5
    split
    · exact a4
    · omega
  · subst h
    simp only [ne_eq, not_true, if_false, g, not_false_eq_true, if_true]
    intro h1 h2
    have : cmpI k k2 ≠ 0 := by unfold cmpI; grind
    omega
  · subst g
    simp only [ne_eq, not_true, if_false, h, not_false_eq_true, if_true]
    intro h1 h2
    have : cmpI k k' ≠ 0 := by unfold cmpI; grind
    omega
  · have hk := (cmpI_tot k k' k2).tr
    have n1 : cmpI k k' ≠ 0 := by unfold cmpI; grind
    rw [if_pos h, if_pos g]
    intro h1 h2
    have := hk h1 h2
    have hne : k ≠ k2 := by
      intro e; subst e
      have : cmpI k k = 0 := by unfold cmpI; simp
      omega
    rw [if_pos hne]
    omega

mutual
theorem cmpV_anti : ∀ a b : V, cmpV b a = - cmpV a b
  | .mk k i t s l, .mk k' i' t' s' l' => by
    unfold cmpV
    by_cases h : k = 7 ∧ k' = 7
    · rw [if_pos h, if_pos ⟨h.2, h.1⟩]; exact cmpL_anti l l'
    · rw [if_neg h, if_neg (fun e => h ⟨e.2, e.1⟩)]; exact single_anti ..
theorem cmpL_anti : ∀ a b : List V, cmpL b a = - cmpL a b
  | [], [] => by simp [cmpL]
  | [], _ :: _ => by simp [cmpL]
  | _ :: _, [] => by simp [cmpL]
  | x :: xs, y :: ys => by
    unfold cmpL
    rw [cmpV_anti x y, cmpL_anti xs ys, orI_neg]
end

mutual
theorem cmpV_tr : ∀ a b c : V, cmpV a b ≤ 0 → cmpV b c ≤ 0 → cmpV a c ≤ 0 ∧ (cmpV a c < 0 ∨ (cmpV a b = 0 ∧ cmpV b c = 0))
  | .mk k i t s l, .mk k' i' t' s' l', .mk k2 i2 t2 s2 l2 => by
    unfold cmpV
    have hl := cmpL_tr l l' l2
    have hs := single_tr k i t s k' i' t' s' k2 i2 t2 s2
    by_cases h : k = 7 <;> by_cases h' : k' = 7 <;> by_cases h2 : k2 = 7
    · rw [if_pos ⟨h, h'⟩, if_pos ⟨h', h2⟩, if_pos ⟨h, h2⟩]; exact hl
    all_goals
      simp only [h, h', h2, and_self, and_false, false_and, if_true, if_false] at hs ⊢
    all_goals
      intro g1 g2
    · subst h; subst h'
      have n1 : single 7 i t s k2 i2 t2 s2 = cmpI 7 k2 := by unfold single; rw [if_pos (fun e => h2 e.symm)]
      have n2 : single 7 i' t' s' k2 i2 t2 s2 = cmpI 7 k2 := by unfold single; rw [if_pos (fun e => h2 e.symm)]
      have n0 : single 7 i t s 7 i' t' s' = 0 := by unfold single; simp
      have n3 : cmpI 7 k2 ≠ 0 := by unfold cmpI; grind
      rw [n1]; rw [n2] at g2; omega
    · subst h; subst h2
      have n1 : single 7 i t s k' i' t' s' = cmpI 7 k' := by unfold single; rw [if_pos (fun e => h' e.symm)]
      have n2 : single k' i' t' s' 7 i2 t2 s2 = cmpI k' 7 := by unfold single; rw [if_pos h']
      have n3 : cmpI 7 k' ≠ 0 := by unfold cmpI; grind
      have n4 := (cmpI_tot 7 k' 7).ab
      rw [n1] at g1; rw [n2] at g2; omega
    · exact hs g1 g2
    · subst h'; subst h2
      have n1 : single k i t s 7 i2 t2 s2 = cmpI k 7 := by unfold single; rw [if_pos h]
      have n2 : single k i t s 7 i' t' s' = cmpI k 7 := by unfold single; rw [if_pos h]
      have n3 : cmpI k 7 ≠ 0 := by unfold cmpI; grind
      rw [n1]; rw [n2] at g1; omega
    · exact hs g1 g2
    · exact hs g1 g2
    · exact hs g1 g2
theorem cmpL_tr : ∀ a b c : List V, cmpL a b ≤ 0 → cmpL b c ≤ 0 → cmpL a c ≤ 0 ∧ (cmpL a c < 0 ∨ (cmpL a b = 0 ∧ cmpL b c = 0))
  | [], [], [] => by simp [cmpL]
  | [], [], _ :: _ => by simp [cmpL]
  | [], _ :: _, [] => by simp [cmpL]
  | [], _ :: _, _ :: _ => by simp [cmpL]
  | _ :: _, [], [] => by simp [cmpL]
  | _ :: _, [], _ :: _ => by simp [cmpL]
  | _ :: _, _ :: _, [] => by simp [cmpL]
  | x :: xs, y :: ys, z :: zs => by
    unfold cmpL
    exact or_tr (cmpV_tr x y z) (cmpL_tr xs ys zs)
end
theorem cmpV_self (a : V) : cmpV a a = 0 := by have := cmpV_anti a a; omega

/-- The lists that are still to be compared, the last one first. -/
def cmpSt : List (List V × List V) → Int
  | [] => 0
  | x :: r => orI (cmpL x.1 x.2) (cmpSt r)
mutual
def sizeV : V → Nat
  | .mk _ _ _ _ l => 2 + sizeL l
def sizeL : List V → Nat
  | [] => 0
  | x :: xs => sizeV x + sizeL xs
end
def sizeSt : List (List V × List V) → Nat
  | [] => 0
  | x :: r => 1 + sizeL x.1 + sizeSt r
def V.kind : V → Int | .mk k _ _ _ _ => k
def V.items : V → List V | .mk _ _ _ _ l => l
def cmp1 : V → V → Int
  | .mk k i t s _, .mk k' i' t' s' _ => single k i t s k' i' t' s'
theorem orI_zero (a : Int) : orI a 0 = a := by unfold orI; split <;> simp_all
theorem zero_orI (a : Int) : orI 0 a = a := by unfold orI; simp
theorem orI_assoc (a b c : Int) : orI (orI a b) c = orI a (orI b c) := by unfold orI; grind
theorem cmpSt_one (a b : List V) : cmpSt [(a, b)] = cmpL a b := by simp [cmpSt, orI_zero]
theorem cmpV_list {x y : V} (h : x.kind = 7) (g : y.kind = 7) : cmpV x y = cmpL x.items y.items := by
  cases x; cases y; simp only [V.kind] at h g; subst h; subst g; simp [cmpV, V.items]
theorem cmpV_one {x y : V} (h : ¬ (x.kind = 7 ∧ y.kind = 7)) : cmpV x y = cmp1 x y := by
  cases x; cases y; simp only [V.kind] at h; unfold cmpV cmp1; rw [if_neg h]
theorem cmpL_nil_left {b : List V} : cmpL [] b = cmpI 0 b.length := by cases b <;> simp [cmpL, cmpI] <;> omega
theorem cmpL_nil_right {a : List V} : cmpL a [] = cmpI a.length 0 := by cases a <;> simp [cmpL, cmpI] <;> omega
theorem cmpL_ends {a b : List V} (h : a = [] ∨ b = []) : cmpL a b = cmpI a.length b.length := by
  rcases h with rfl | rfl
  · exact cmpL_nil_left
  · exact cmpL_nil_right
theorem cmpSt_pop {a b : List V} {r : List (List V × List V)} (h : a = [] ∨ b = []) (e : a.length = b.length) : cmpSt ((a, b) :: r) = cmpSt r := by
  show orI (cmpL a b) (cmpSt r) = cmpSt r
  rw [cmpL_ends h, e]; simp [cmpI, zero_orI]
theorem cmpSt_end {a b : List V} {r : List (List V × List V)} (h : a = [] ∨ b = []) (e : a.length ≠ b.length) : cmpSt ((a, b) :: r) = cmpI a.length b.length := by
  show orI (cmpL a b) (cmpSt r) = _
  rw [cmpL_ends h]; unfold cmpI orI; grind
theorem cmpSt_push {x y : V} {a b : List V} {r : List (List V × List V)} (h : x.kind = 7) (g : y.kind = 7) : cmpSt ((x :: a, y :: b) :: r) = cmpSt ((x.items, y.items) :: (a, b) :: r) := by
  simp only [cmpSt, cmpL]; rw [cmpV_list h g, orI_assoc]
theorem cmpSt_same {x y : V} {a b : List V} {r : List (List V × List V)} (h : ¬ (x.kind = 7 ∧ y.kind = 7)) (g : cmp1 x y = 0) : cmpSt ((x :: a, y :: b) :: r) = cmpSt ((a, b) :: r) := by
  simp only [cmpSt, cmpL]; rw [cmpV_one h, g, zero_orI]
theorem cmpSt_other {x y : V} {a b : List V} {r : List (List V × List V)} (h : ¬ (x.kind = 7 ∧ y.kind = 7)) (g : cmp1 x y ≠ 0) : cmpSt ((x :: a, y :: b) :: r) = cmp1 x y := by
  simp only [cmpSt, cmpL]; rw [cmpV_one h]; unfold orI; grind
theorem sizeV_pos (x : V) : 2 ≤ sizeV x := by cases x; unfold sizeV; omega
theorem sizeV_items (x : V) : sizeV x = 2 + sizeL x.items := by cases x; simp [sizeV, V.items]
end Go.Proofs.Ytkidjhdfpdecoaa.Vals
