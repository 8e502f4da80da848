/- Values as trees, their order, and the stack of lists that are still to be compared. Values in memory, and how two of them are compared. Lists of values, compared with a stack of what is left. Two values compared. -/
import Derived.Test.YtfpiannnggkdiaaDoorProg
import Derived.WalkKit
import Derived.WalkLawsBesides
import Derived.Lib.Hide
import Derived.Below
import Derived.Sort.Walk0
import Derived.Deep.DeepCutAuto
import Derived.Deep.CutBlock
import Derived.StillTailTactics
import Derived.Deep.LoopGhost
import Derived.Deep.QuietTactic
import Derived.BigQuiet
import Derived.BigRegion
namespace Go.Proofs.YtfpiannnggkdiaaDoor.Vals

inductive V where
  | mk (k i t : Int) (s : ByteArray) (l : List V)

/-- -1, 0 or 1. -/
def cmpI (a b : Int) : Int := if a < b then -1 else if b < a then 1 else 0
def cmpS (a b : ByteArray) : Int := if a.data.toList < b.data.toList then -1 else if b.data.toList < a.data.toList then 1 else 0
def orI (a b : Int) : Int := if a = 0 then b else a

def single (k i t : Int) (s : ByteArray) (k' i' t' : Int) (s' : ByteArray) : Int :=
  if k ≠ k' then cmpI k k'
  else if k = 1 ∨ k = 2 ∨ k = 4 then cmpI i i'
  else if k = 5 then orI (cmpI i i') (cmpI t t')
  else if k = 3 ∨ k = 6 then cmpS s s'
  else 0

mutual
def cmpV : V → V → Int
  | .mk k i t s l, .mk k' i' t' s' l' => if k = 7 ∧ k' = 7 then cmpL l l' else single k i t s k' i' t' s'
def cmpL : List V → List V → Int
  | [], [] => 0
  | [], _ :: _ => -1
  | _ :: _, [] => 1
  | x :: xs, y :: ys => orI (cmpV x y) (cmpL xs ys)
end

/-- What a total order's comparison keeps. -/
structure Tot {α : Type} (f : α → α → Int) (a b c : α) : Prop where
  ab : f b a = - f a b
  bc : f c b = - f b c
  ac : f c a = - f a c
  tr : f a b ≤ 0 → f b c ≤ 0 → f a c ≤ 0 ∧ (f a c < 0 ∨ (f a b = 0 ∧ f b c = 0))

theorem cmpI_tot (a b c : Int) : Tot cmpI a b c := by
  constructor <;> unfold cmpI <;> grind
theorem lt_tri (a b : List UInt8) : a < b ∨ a = b ∨ b < a := by
  by_cases h : a < b
  · exact .inl h
  · by_cases g : b < a
    · exact .inr (.inr g)
    · exact .inr (.inl (List.le_antisymm (List.not_lt.1 g) (List.not_lt.1 h)))
theorem cmpS_anti (a b : ByteArray) : cmpS b a = - cmpS a b := by
  unfold cmpS
  generalize a.data.toList = a, b.data.toList = b
  by_cases h : a < b
  · have g := List.lt_asymm h; simp [h, g]
  · by_cases g : b < a <;> simp [h, g]
theorem cmpS_tr (a b c : ByteArray) : cmpS a b ≤ 0 → cmpS b c ≤ 0 → cmpS a c ≤ 0 ∧ (cmpS a c < 0 ∨ (cmpS a b = 0 ∧ cmpS b c = 0)) := by
  unfold cmpS
  generalize a.data.toList = a, b.data.toList = b, c.data.toList = c
  intro h1 h2
  rcases lt_tri a b with h | h | h
  · rcases lt_tri b c with g | g | g
    · have := List.lt_trans h g; simp [this]
    · subst g; simp [h]
    · have := List.lt_asymm g; simp [this, g] at h2
  · subst h
    rcases lt_tri a c with g | g | g
    · simp [g]
    · subst g; simp [List.lt_irrefl]
    · have := List.lt_asymm g; simp [this, g] at h2
  · have := List.lt_asymm h; simp [this, h] at h1
theorem cmpS_tot (a b c : ByteArray) : Tot cmpS a b c := ⟨cmpS_anti _ _, cmpS_anti _ _, cmpS_anti _ _, cmpS_tr a b c⟩

theorem orI_neg (a b : Int) : orI (-a) (-b) = - orI a b := by unfold orI; grind
theorem or_tr {x1 x2 x3 y1 y2 y3 : Int} (hx : x1 ≤ 0 → x2 ≤ 0 → x3 ≤ 0 ∧ (x3 < 0 ∨ (x1 = 0 ∧ x2 = 0))) (hy : y1 ≤ 0 → y2 ≤ 0 → y3 ≤ 0 ∧ (y3 < 0 ∨ (y1 = 0 ∧ y2 = 0))) :
    orI x1 y1 ≤ 0 → orI x2 y2 ≤ 0 → orI x3 y3 ≤ 0 ∧ (orI x3 y3 < 0 ∨ (orI x1 y1 = 0 ∧ orI x2 y2 = 0)) := by
  unfold orI
  intro h1 h2
  grind

theorem single_anti (k i t : Int) (s : ByteArray) (k' i' t' : Int) (s' : ByteArray) : single k' i' t' s' k i t s = - single k i t s k' i' t' s' := by
  unfold single
  have a1 := (cmpI_tot k k' k).ab
  have a2 := (cmpI_tot i i' i).ab
  have a3 := (cmpI_tot t t' t).ab
  have a4 := cmpS_anti s s'
  by_cases h : k = k'
  · subst h
    simp only [ne_eq, not_true, if_false]
    rw [a2, a3, a4, orI_neg]
    repeat' split
    all_goals rfl
  · rw [if_pos h, if_pos (fun e => h e.symm), a1]
theorem single_tr (k i t : Int) (s : ByteArray) (k' i' t' : Int) (s' : ByteArray) (k2 i2 t2 : Int) (s2 : ByteArray) :
    single k i t s k' i' t' s' ≤ 0 → single k' i' t' s' k2 i2 t2 s2 ≤ 0 → single k i t s k2 i2 t2 s2 ≤ 0 ∧ (single k i t s k2 i2 t2 s2 < 0 ∨ (single k i t s k' i' t' s' = 0 ∧ single k' i' t' s' k2 i2 t2 s2 = 0)) := by
  unfold single
  have a2 := (cmpI_tot i i' i2).tr
  have a3 := (cmpI_tot t t' t2).tr
  have a4 := cmpS_tr s s' s2
  have a5 := or_tr a2 a3
  by_cases h : k = k' <;> by_cases g : k' = k2
  · subst h; subst g
    simp only [ne_eq, not_true, if_false]
    split
    · exact a2
    split
    · exact a5
    split
    · exact a4
    · omega
  · subst h
    simp only [ne_eq, not_true, if_false, g, not_false_eq_true, if_true]
    intro h1 h2
    have : cmpI k k2 ≠ 0 := by unfold cmpI; grind
    omega
  · subst g
    simp only [ne_eq, not_true, if_false, h, not_false_eq_true, if_true]
    intro h1 h2
    have : cmpI k k' ≠ 0 := by unfold cmpI; grind
    omega
  · have hk := (cmpI_tot k k' k2).tr
    have n1 : cmpI k k' ≠ 0 := by unfold cmpI; grind
    rw [if_pos h, if_pos g]
    intro h1 h2
    have := hk h1 h2
    have hne : k ≠ k2 := by
      intro e; subst e
      have : cmpI k k = 0 := by unfold cmpI; simp
      omega
    rw [if_pos hne]
    omega

mutual
theorem cmpV_anti : ∀ a b : V, cmpV b a = - cmpV a b
  | .mk k i t s l, .mk k' i' t' s' l' => by
    unfold cmpV
    by_cases h : k = 7 ∧ k' = 7
    · rw [if_pos h, if_pos ⟨h.2, h.1⟩]; exact cmpL_anti l l'
    · rw [if_neg h, if_neg (fun e => h ⟨e.2, e.1⟩)]; exact single_anti ..
theorem cmpL_anti : ∀ a b : List V, cmpL b a = - cmpL a b
  | [], [] => by simp [cmpL]
  | [], _ :: _ => by simp [cmpL]
  | _ :: _, [] => by simp [cmpL]
  | x :: xs, y :: ys => by
    unfold cmpL
    rw [cmpV_anti x y, cmpL_anti xs ys, orI_neg]
end

mutual
theorem cmpV_tr : ∀ a b c : V, cmpV a b ≤ 0 → cmpV b c ≤ 0 → cmpV a c ≤ 0 ∧ (cmpV a c < 0 ∨ (cmpV a b = 0 ∧ cmpV b c = 0))
  | .mk k i t s l, .mk k' i' t' s' l', .mk k2 i2 t2 s2 l2 => by
    unfold cmpV
    have hl := cmpL_tr l l' l2
    have hs := single_tr k i t s k' i' t' s' k2 i2 t2 s2
    by_cases h : k = 7 <;> by_cases h' : k' = 7 <;> by_cases h2 : k2 = 7
    · rw [if_pos ⟨h, h'⟩, if_pos ⟨h', h2⟩, if_pos ⟨h, h2⟩]; exact hl
    all_goals
      simp only [h, h', h2, and_self, and_false, false_and, if_true, if_false] at hs ⊢
    all_goals
      intro g1 g2
    · subst h; subst h'
      have n1 : single 7 i t s k2 i2 t2 s2 = cmpI 7 k2 := by unfold single; rw [if_pos (fun e => h2 e.symm)]
      have n2 : single 7 i' t' s' k2 i2 t2 s2 = cmpI 7 k2 := by unfold single; rw [if_pos (fun e => h2 e.symm)]
      have n0 : single 7 i t s 7 i' t' s' = 0 := by unfold single; simp
      have n3 : cmpI 7 k2 ≠ 0 := by unfold cmpI; grind
      rw [n1]; rw [n2] at g2; omega
    · subst h; subst h2
      have n1 : single 7 i t s k' i' t' s' = cmpI 7 k' := by unfold single; rw [if_pos (fun e => h' e.symm)]
      have n2 : single k' i' t' s' 7 i2 t2 s2 = cmpI k' 7 := by unfold single; rw [if_pos h']
      have n3 : cmpI 7 k' ≠ 0 := by unfold cmpI; grind
      have n4 := (cmpI_tot 7 k' 7).ab
      rw [n1] at g1; rw [n2] at g2; omega
    · exact hs g1 g2
    · subst h'; subst h2
      have n1 : single k i t s 7 i2 t2 s2 = cmpI k 7 := by unfold single; rw [if_pos h]
      have n2 : single k i t s 7 i' t' s' = cmpI k 7 := by unfold single; rw [if_pos h]
      have n3 : cmpI k 7 ≠ 0 := by unfold cmpI; grind
      rw [n1]; rw [n2] at g1; omega
    · exact hs g1 g2
    · exact hs g1 g2
    · exact hs g1 g2
theorem cmpL_tr : ∀ a b c : List V, cmpL a b ≤ 0 → cmpL b c ≤ 0 → cmpL a c ≤ 0 ∧ (cmpL a c < 0 ∨ (cmpL a b = 0 ∧ cmpL b c = 0))
  | [], [], [] => by simp [cmpL]
  | [], [], _ :: _ => by simp [cmpL]
  | [], _ :: _, [] => by simp [cmpL]
  | [], _ :: _, _ :: _ => by simp [cmpL]
  | _ :: _, [], [] => by simp [cmpL]
  | _ :: _, [], _ :: _ => by simp [cmpL]
  | _ :: _, _ :: _, [] => by simp [cmpL]
  | x :: xs, y :: ys, z :: zs => by
    unfold cmpL
    exact or_tr (cmpV_tr x y z) (cmpL_tr xs ys zs)
end
theorem cmpV_self (a : V) : cmpV a a = 0 := by have := cmpV_anti a a; omega

/-- The lists that are still to be compared, the last one first. -/
def cmpSt : List (List V × List V) → Int
  | [] => 0
  | x :: r => orI (cmpL x.1 x.2) (cmpSt r)
mutual
def sizeV : V → Nat
  | .mk _ _ _ _ l => 2 + sizeL l
def sizeL : List V → Nat
  | [] => 0
  | x :: xs => sizeV x + sizeL xs
end
def sizeSt : List (List V × List V) → Nat
  | [] => 0
  | x :: r => 1 + sizeL x.1 + sizeSt r
def V.kind : V → Int | .mk k _ _ _ _ => k
def V.items : V → List V | .mk _ _ _ _ l => l
def cmp1 : V → V → Int
  | .mk k i t s _, .mk k' i' t' s' _ => single k i t s k' i' t' s'
theorem orI_zero (a : Int) : orI a 0 = a := by unfold orI; split <;> simp_all
theorem zero_orI (a : Int) : orI 0 a = a := by unfold orI; simp
theorem orI_assoc (a b c : Int) : orI (orI a b) c = orI a (orI b c) := by unfold orI; grind
theorem cmpSt_one (a b : List V) : cmpSt [(a, b)] = cmpL a b := by simp [cmpSt, orI_zero]
theorem cmpV_list {x y : V} (h : x.kind = 7) (g : y.kind = 7) : cmpV x y = cmpL x.items y.items := by
  cases x; cases y; simp only [V.kind] at h g; subst h; subst g; simp [cmpV, V.items]
theorem cmpV_one {x y : V} (h : ¬ (x.kind = 7 ∧ y.kind = 7)) : cmpV x y = cmp1 x y := by
  cases x; cases y; simp only [V.kind] at h; unfold cmpV cmp1; rw [if_neg h]
theorem cmpL_nil_left {b : List V} : cmpL [] b = cmpI 0 b.length := by cases b <;> simp [cmpL, cmpI] <;> omega
theorem cmpL_nil_right {a : List V} : cmpL a [] = cmpI a.length 0 := by cases a <;> simp [cmpL, cmpI] <;> omega
theorem cmpL_ends {a b : List V} (h : a = [] ∨ b = []) : cmpL a b = cmpI a.length b.length := by
  rcases h with rfl | rfl
  · exact cmpL_nil_left
  · exact cmpL_nil_right
theorem cmpSt_pop {a b : List V} {r : List (List V × List V)} (h : a = [] ∨ b = []) (e : a.length = b.length) : cmpSt ((a, b) :: r) = cmpSt r := by
  show orI (cmpL a b) (cmpSt r) = cmpSt r
  rw [cmpL_ends h, e]; simp [cmpI, zero_orI]
theorem cmpSt_end {a b : List V} {r : List (List V × List V)} (h : a = [] ∨ b = []) (e : a.length ≠ b.length) : cmpSt ((a, b) :: r) = cmpI a.length b.length := by
  show orI (cmpL a b) (cmpSt r) = _
  rw [cmpL_ends h]; unfold cmpI orI; grind
theorem cmpSt_push {x y : V} {a b : List V} {r : List (List V × List V)} (h : x.kind = 7) (g : y.kind = 7) : cmpSt ((x :: a, y :: b) :: r) = cmpSt ((x.items, y.items) :: (a, b) :: r) := by
  simp only [cmpSt, cmpL]; rw [cmpV_list h g, orI_assoc]
theorem cmpSt_same {x y : V} {a b : List V} {r : List (List V × List V)} (h : ¬ (x.kind = 7 ∧ y.kind = 7)) (g : cmp1 x y = 0) : cmpSt ((x :: a, y :: b) :: r) = cmpSt ((a, b) :: r) := by
  simp only [cmpSt, cmpL]; rw [cmpV_one h, g, zero_orI]
theorem cmpSt_other {x y : V} {a b : List V} {r : List (List V × List V)} (h : ¬ (x.kind = 7 ∧ y.kind = 7)) (g : cmp1 x y ≠ 0) : cmpSt ((x :: a, y :: b) :: r) = cmp1 x y := by
  simp only [cmpSt, cmpL]; rw [cmpV_one h]; unfold orI; grind
theorem sizeV_pos (x : V) : 2 ≤ sizeV x := by cases x; unfold sizeV; omega
theorem sizeV_items (x : V) : sizeV x = 2 + sizeL x.items := by cases x; simp [sizeV, V.items]
end Go.Proofs.YtfpiannnggkdiaaDoor.Vals
namespace Go.Proofs.YtfpiannnggkdiaaDoor.Vl
open Go.RowKit
open Go.Proofs.YtfpiannnggkdiaaDoor.Vals

theorem ret_int {k : IntKind} {a b : Int} (h : a = b) : Ending.returned (.int k a) = .returned (.int k b) := by rw [h]

mutual
/-- A value lies as five cells, all of it below block B. -/
def CellsAt (w : World) (B : Nat) : V → Nat → Nat → Prop
  | .mk k i t s l, b, off => b < B ∧ w.cell? ⟨b, off, none⟩ = some (.int .i64 k) ∧ w.cell? ⟨b, off + 1, none⟩ = some (.int .i64 i) ∧ w.cell? ⟨b, off + 2, none⟩ = some (.int .i64 t) ∧
      w.cell? ⟨b, off + 3, none⟩ = some (.string s) ∧ ∃ A c, w.cell? ⟨b, off + 4, none⟩ = some (.slice A l.length c) ∧ l.length ≤ 1048576 ∧ l.length ≤ c ∧ (l = [] ∨ ∃ b' off', A = some ⟨b', off', none⟩ ∧ RowAt w B l b' off')
/-- Values lie one after the other. -/
def RowAt (w : World) (B : Nat) : List V → Nat → Nat → Prop
  | [], _, _ => True
  | x :: xs, b, off => CellsAt w B x b off ∧ RowAt w B xs b (off + 5)
end
/-- A slice of values. -/
def SlAt (w : World) (B : Nat) (l : List V) (g : Value) : Prop :=
  ∃ A c, g = .slice A l.length c ∧ l.length ≤ 1048576 ∧ l.length ≤ c ∧ (l = [] ∨ ∃ b off, A = some ⟨b, off, none⟩ ∧ RowAt w B l b off)
/-- A value in hand. -/
def VAt (w : World) (B : Nat) : V → Value → Prop
  | .mk k i t s l, g => ∃ sl, g = .agg #[.int .i64 k, .int .i64 i, .int .i64 t, .string s, sl] ∧ SlAt w B l sl

mutual
theorem CellsAt.below {w w' : World} {B C : Nat} (hb : Below C w w') (hc : B ≤ C) : ∀ (v : V) (b off : Nat), CellsAt w B v b off → CellsAt w' B v b off
  | .mk k i t s l, b, off, h => by
    unfold CellsAt at h ⊢
    obtain ⟨h0, h1, h2, h3, h4, A, c, h5, h6, h7, h8⟩ := h
    have q : ∀ o, w'.cell? ⟨b, o, none⟩ = w.cell? ⟨b, o, none⟩ := fun o => hb.cell (p := ⟨b, o, none⟩) (by show b < C; omega)
    refine ⟨h0, (q _).trans h1, (q _).trans h2, (q _).trans h3, (q _).trans h4, A, c, (q _).trans h5, h6, h7, ?_⟩
    rcases h8 with h8 | ⟨b', off', rfl, h8⟩
    · exact .inl h8
    · exact .inr ⟨b', off', rfl, RowAt.below hb hc l b' off' h8⟩
theorem RowAt.below {w w' : World} {B C : Nat} (hb : Below C w w') (hc : B ≤ C) : ∀ (l : List V) (b off : Nat), RowAt w B l b off → RowAt w' B l b off
  | [], _, _, _ => trivial
  | x :: xs, b, off, h => by
    unfold RowAt at h ⊢
    exact ⟨CellsAt.below hb hc x b off h.1, RowAt.below hb hc xs b (off + 5) h.2⟩
end
theorem SlAt.below {w w' : World} {B C : Nat} {l : List V} {g : Value} (h : SlAt w B l g) (hb : Below C w w') (hc : B ≤ C) : SlAt w' B l g := by
  obtain ⟨A, c, e, h1, h2, h3⟩ := h
  refine ⟨A, c, e, h1, h2, ?_⟩
  rcases h3 with h3 | ⟨b, off, rfl, h3⟩
  · exact .inl h3
  · exact .inr ⟨b, off, rfl, h3.below hb hc⟩
theorem VAt.below {w w' : World} {B C : Nat} {v : V} {g : Value} (h : VAt w B v g) (hb : Below C w w') (hc : B ≤ C) : VAt w' B v g := by
  cases v
  obtain ⟨sl, e, h⟩ := h
  exact ⟨sl, e, h.below hb hc⟩

set_option maxHeartbeats 400000 in
theorem cmpInt_any (x y : Int) (w : World) :
    Calls Tryd.prog 88 #[.int .i64 x, .int .i64 y] w fun e w' => e = .returned (.int .i64 (cmpI x y)) ∧ w = w' := by
  have q1 : (x != x) = false := by simp
  rcases (by omega : x < y ∨ x = y ∨ y < x) with h | h | h
  · have HF : Hid (cmpI x y = -1) := Lib.hid (by unfold cmpI; rw [if_pos h])
    go_enter Tryd.func88, Tryd.ntmps88
    go_wp2
    go_ret
    exact ⟨by rw [HF.out]; rfl, rfl⟩
  · subst h
    have HF : Hid (cmpI x x = 0) := Lib.hid (by unfold cmpI; simp)
    go_enter Tryd.func88, Tryd.ntmps88
    go_wp2
    go_ret
    exact ⟨by rw [HF.out]; rfl, rfl⟩
  · have HF : Hid (cmpI x y = 1) := Lib.hid (by unfold cmpI; rw [if_neg (by omega), if_pos h])
    go_enter Tryd.func88, Tryd.ntmps88
    go_wp2
    go_ret
    exact ⟨by rw [HF.out]; rfl, rfl⟩

set_option maxHeartbeats 400000 in
theorem cmpStr_any (x y : ByteArray) (w : World) :
    Calls Tryd.prog 90 #[.string x, .string y] w fun e w' => e = .returned (.int .i64 (cmpS x y)) ∧ w = w' := by
  go_enter Tryd.func90, Tryd.ntmps90
  go_wp2
  · have h : Op.bytesLess x.toList y.toList = true := by assumption
    rw [Proofs.bytesLess_eq, Lib.toList_data, Lib.toList_data] at h
    go_ret
    refine ⟨ret_int ?_, rfl⟩
    unfold cmpS; rw [if_pos (by simpa using h)]
  · have h : Op.bytesLess x.toList y.toList = false := by assumption
    have g : (!x.toList == y.toList) = true := by assumption
    rw [Proofs.bytesLess_eq, Lib.toList_data, Lib.toList_data] at h
    rw [Lib.toList_data, Lib.toList_data] at g
    go_ret
    refine ⟨ret_int ?_, rfl⟩
    have h' : ¬ x.data.toList < y.data.toList := by simpa using h
    have g' : y.data.toList < x.data.toList := by
      rcases lt_tri x.data.toList y.data.toList with a | a | a
      · exact absurd a h'
      · simp [a] at g
      · exact a
    unfold cmpS; rw [if_neg h', if_pos g']
  · have h : Op.bytesLess x.toList y.toList = false := by assumption
    have g : (!x.toList == y.toList) = false := by assumption
    rw [Proofs.bytesLess_eq, Lib.toList_data, Lib.toList_data] at h
    rw [Lib.toList_data, Lib.toList_data] at g
    go_ret
    refine ⟨ret_int ?_, rfl⟩
    have e : x.data.toList = y.data.toList := by simpa using g
    unfold cmpS; rw [e]; simp [List.lt_irrefl]

set_option maxHeartbeats 400000 in
/-- Two numbers in a row of the caller's. -/
theorem cmpOr_any (a b : Int) (B off c : Nat) (w : World) (h0 : w.cell? ⟨B, off, none⟩ = some (.int .i64 a)) (h1 : w.cell? ⟨B, off + 1, none⟩ = some (.int .i64 b)) :
    Calls Tryd.prog 89 #[.slice (some ⟨B, off, none⟩) 2 c] w fun e w' => e = .returned (.int .i64 (orI a b)) ∧ w = w' := by
  go_enter Tryd.func89, Tryd.ntmps89
  go_wp2_with fail
  go_loop [8] (fun i => ∃ k : Nat, k ≤ 2 ∧ i = .int .i64 k ∧ Hid ((1 ≤ k → a = 0) ∧ (k = 2 → b = 0))) (fun i => 2 - (intOf i).toNat)
  case atStart => exact ⟨0, by omega, rfl, Lib.hid (by omega)⟩
  case round =>
    obtain ⟨k, hk, rfl, hz⟩ := hrel
    rcases (by omega : k = 0 ∨ k = 1 ∨ k = 2) with rfl | rfl | rfl
    · by_cases ha : a = 0
      · have q1 : (a != 0) = false := by simpa using ha
        have HA := Lib.hid ha
        clear ha
        go_wp2
        go_round
        case rel => exact ⟨1, by omega, by go_num, Lib.hid ⟨fun _ => HA.out, by omega⟩⟩
        case measure => simp [intOf]
      · have q1 : (a != 0) = true := by simpa using ha
        have HA := Lib.hid ha
        clear ha
        go_wp2
        go_ret
        refine ⟨ret_int ?_, rfl⟩
        unfold orI; rw [if_neg HA.out]
    · by_cases hb : b = 0
      · have q1 : (b != 0) = false := by simpa using hb
        have HB := Lib.hid hb
        clear hb
        go_wp2
        go_round
        case rel => exact ⟨2, by omega, by go_num, Lib.hid ⟨fun _ => hz.out.1 (by omega), fun _ => HB.out⟩⟩
        case measure => simp [intOf]
      · have q1 : (b != 0) = true := by simpa using hb
        clear hb
        go_wp2
        go_ret
        refine ⟨ret_int ?_, rfl⟩
        unfold orI; rw [if_pos (hz.out.1 (by omega))]
    · go_wp2
      go_ret
      refine ⟨ret_int ?_, rfl⟩
      unfold orI; rw [if_pos (hz.out.1 (by omega)), hz.out.2 trivial]

/-- The comparison's answer; what lay there is as it was. -/
def Says (x : Int) (w : World) (e : Ending) (w' : World) : Prop := e = .returned (.int .i64 x) ∧ Below w.heap.size w w'

theorem two_boxes (w : World) (a b : Obj) : Below w.heap.size w ((w.alloc a).alloc b) :=
  ((Below.refl _ _).alloc (Nat.le_refl _) _).alloc (by simp) _

set_option maxHeartbeats 1000000 in
theorem compareSingle_other (k i t : Int) (s : ByteArray) (sl : Value) (k' i' t' : Int) (s' : ByteArray) (sl' : Value) (w : World) (h : k ≠ k') :
    Calls Tryd.prog 68 #[.agg #[.int .i64 k, .int .i64 i, .int .i64 t, .string s, sl], .agg #[.int .i64 k', .int .i64 i', .int .i64 t', .string s', sl']] w (Says (single k i t s k' i' t' s') w) := by
  have q1 : (k != k') = true := by simpa using h
  have q2 : (k == k') = false := by simpa using h
  have HF : Hid (single k i t s k' i' t' s' = cmpI k k') := Lib.hid (by unfold single; rw [if_pos h])
  clear h
  go_enter Tryd.func68, Tryd.ntmps68
  go_wp2_with fail
  refine (cmpInt_any _ _ _).mono ?_
  rintro e w' ⟨rfl, rfl⟩
  go_wp2
  go_ret
  exact ⟨by rw [HF.out]; rfl, two_boxes w _ _⟩

set_option maxHeartbeats 1000000 in
theorem compareSingle_int (k i t : Int) (s : ByteArray) (sl : Value) (i' t' : Int) (s' : ByteArray) (sl' : Value) (w : World) (h : k = 1 ∨ k = 2 ∨ k = 4) :
    Calls Tryd.prog 68 #[.agg #[.int .i64 k, .int .i64 i, .int .i64 t, .string s, sl], .agg #[.int .i64 k, .int .i64 i', .int .i64 t', .string s', sl']] w (Says (single k i t s k i' t' s') w) := by
  have HF : Hid (single k i t s k i' t' s' = cmpI i i') := Lib.hid (by unfold single; rw [if_neg (by simp), if_pos h])
  rcases h with rfl | rfl | rfl
  all_goals
    go_enter Tryd.func68, Tryd.ntmps68
    go_wp2_with fail
    refine (cmpInt_any _ _ _).mono ?_
    rintro e w' ⟨rfl, rfl⟩
    go_wp2
    go_ret
    exact ⟨by rw [HF.out]; rfl, two_boxes w _ _⟩

set_option maxHeartbeats 1000000 in
theorem compareSingle_str (k i t : Int) (s : ByteArray) (sl : Value) (i' t' : Int) (s' : ByteArray) (sl' : Value) (w : World) (h : k = 3 ∨ k = 6) :
    Calls Tryd.prog 68 #[.agg #[.int .i64 k, .int .i64 i, .int .i64 t, .string s, sl], .agg #[.int .i64 k, .int .i64 i', .int .i64 t', .string s', sl']] w (Says (single k i t s k i' t' s') w) := by
  have HF : Hid (single k i t s k i' t' s' = cmpS s s') := Lib.hid (by unfold single; rw [if_neg (by simp), if_neg (by omega), if_neg (by omega), if_pos h])
  rcases h with rfl | rfl
  all_goals
    go_enter Tryd.func68, Tryd.ntmps68
    go_wp2_with fail
    refine (cmpStr_any _ _ _).mono ?_
    rintro e w' ⟨rfl, rfl⟩
    go_wp2
    go_ret
    exact ⟨by rw [HF.out]; rfl, two_boxes w _ _⟩

set_option maxHeartbeats 1000000 in
theorem compareSingle_none (k i t : Int) (s : ByteArray) (sl : Value) (i' t' : Int) (s' : ByteArray) (sl' : Value) (w : World) (h : ¬ (k = 1 ∨ k = 2 ∨ k = 4 ∨ k = 5 ∨ k = 3 ∨ k = 6)) :
    Calls Tryd.prog 68 #[.agg #[.int .i64 k, .int .i64 i, .int .i64 t, .string s, sl], .agg #[.int .i64 k, .int .i64 i', .int .i64 t', .string s', sl']] w (Says (single k i t s k i' t' s') w) := by
  have HF : Hid (single k i t s k i' t' s' = 0) := Lib.hid (by unfold single; rw [if_neg (by simp), if_neg (by omega), if_neg (by omega), if_neg (by omega)])
  have q1 : (k == 1) = false := by simp; omega
  have q2 : (k == 2) = false := by simp; omega
  have q3 : (k == 3) = false := by simp; omega
  have q4 : (k == 4) = false := by simp; omega
  have q5 : (k == 5) = false := by simp; omega
  have q6 : (k == 6) = false := by simp; omega
  clear h
  go_enter Tryd.func68, Tryd.ntmps68
  go_wp2
  go_ret
  exact ⟨by rw [HF.out]; rfl, two_boxes w _ _⟩

set_option maxHeartbeats 1000000 in
set_option maxRecDepth 100000 in
theorem compareSingle_span (i t : Int) (s : ByteArray) (sl : Value) (i' t' : Int) (s' : ByteArray) (sl' : Value) (w : World) :
    Calls Tryd.prog 68 #[.agg #[.int .i64 5, .int .i64 i, .int .i64 t, .string s, sl], .agg #[.int .i64 5, .int .i64 i', .int .i64 t', .string s', sl']] w (Says (single 5 i t s 5 i' t' s') w) := by
  have HF : Hid (single 5 i t s 5 i' t' s' = orI (cmpI i i') (cmpI t t')) := Lib.hid (by unfold single; simp)
  obtain ⟨p, hp⟩ : ∃ p, p = cmpI i i' := ⟨_, rfl⟩
  obtain ⟨q, hq⟩ : ∃ q, q = cmpI t t' := ⟨_, rfl⟩
  have HP := Lib.hid hp
  have HQ := Lib.hid hq
  rw [← hp, ← hq] at HF
  clear hp hq
  go_enter Tryd.func68, Tryd.ntmps68
  go_wp2_with fail
  obtain ⟨W2, hW2⟩ : ∃ W2, W2 = (w.alloc (.cells #[.int .i64 5, .int .i64 i, .int .i64 t, .string s, sl] 53)).alloc (.cells #[.int .i64 5, .int .i64 i', .int .i64 t', .string s', sl'] 53) := ⟨_, rfl⟩
  rw [← hW2]
  have c1 : ({ W2 with drawn := W2.drawn + 1 } : World).cell? ⟨w.heap.size, 1, none⟩ = some (.int .i64 i) := by show W2.cell? _ = _; rw [hW2]; simp [go_sem]
  have c2 : ({ W2 with drawn := W2.drawn + 1 } : World).cell? ⟨w.heap.size, 2, none⟩ = some (.int .i64 t) := by show W2.cell? _ = _; rw [hW2]; simp [go_sem]
  have c3 : ({ W2 with drawn := W2.drawn + 1 } : World).cell? ⟨w.heap.size + 1, 1, none⟩ = some (.int .i64 i') := by show W2.cell? _ = _; rw [hW2]; simp [go_sem]
  have c4 : ({ W2 with drawn := W2.drawn + 1 } : World).cell? ⟨w.heap.size + 1, 2, none⟩ = some (.int .i64 t') := by show W2.cell? _ = _; rw [hW2]; simp [go_sem]
  have hb : Below w.heap.size w ({ W2 with drawn := W2.drawn + 1 } : World) := by rw [hW2]; exact (two_boxes w _ _).drew
  have hsz : w.heap.size ≤ ({ W2 with drawn := W2.drawn + 1 } : World).heap.size := hb.size
  refine wp_region_still_tail 10 (by kernel_rfl) (by kernel_rfl) ?_
  generalize ({ W2 with drawn := W2.drawn + 1 } : World) = W3 at *
  clear hW2
  simp only [List.take_succ_cons, List.take_zero, List.drop_succ_cons, List.drop_zero]
  still_step
  still_step
  still_step
  still_step
  still_call ((cmpInt_any i i' _).mono fun _ _ ⟨h, g⟩ => ⟨h, g.symm⟩)
  rw [← HP.out]
  still_step
  still_step
  still_step
  still_step
  still_call ((cmpInt_any t t' _).mono fun _ _ ⟨h, g⟩ => ⟨h, g.symm⟩)
  rw [← HQ.out]
  refine wpStill_nil ?_
  have HB := Lib.hid hb
  clear hb c1 c2 c3 c4
  go_wp2_with fail
  refine (cmpOr_any p q _ _ _ _ (by rw [World.cell?_alloc_at _ _ _ _ rfl]; rfl) (by rw [World.cell?_alloc_at _ _ _ _ rfl]; rfl)).mono ?_
  rintro e w' ⟨rfl, rfl⟩
  go_wp2
  go_ret
  exact ⟨by rw [HF.out]; rfl, HB.out.alloc hsz _⟩

theorem compareSingle_any (x y : V) (g g' : Value) (B : Nat) (w : World) (hx : VAt w B x g) (hy : VAt w B y g') :
    Calls Tryd.prog 68 #[g, g'] w (Says (cmp1 x y) w) := by
  obtain ⟨k, i, t, s, l⟩ := x
  obtain ⟨k', i', t', s', l'⟩ := y
  obtain ⟨sl, rfl, _⟩ := hx
  obtain ⟨sl', rfl, _⟩ := hy
  show Calls _ _ _ _ (Says (single k i t s k' i' t' s') w)
  by_cases h : k = k'
  · subst h
    rcases (by omega : (k = 1 ∨ k = 2 ∨ k = 4) ∨ k = 5 ∨ (k = 3 ∨ k = 6) ∨ ¬ (k = 1 ∨ k = 2 ∨ k = 4 ∨ k = 5 ∨ k = 3 ∨ k = 6)) with h | h | h | h
    · exact compareSingle_int k i t s sl i' t' s' sl' w h
    · subst h; exact compareSingle_span i t s sl i' t' s' sl' w
    · exact compareSingle_str k i t s sl i' t' s' sl' w h
    · exact compareSingle_none k i t s sl i' t' s' sl' w h
  · exact compareSingle_other k i t s sl k' i' t' s' sl' w h
end Go.Proofs.YtfpiannnggkdiaaDoor.Vl
namespace Go.Proofs.YtfpiannnggkdiaaDoor.Vl
open Go.RowKit
open Go.Proofs.YtfpiannnggkdiaaDoor.Vals

/-- The stack's cells, the bottom first. -/
def Stk (w : World) (B : Nat) : List (List V × List V) → List Value → Prop
  | [], xs => xs = []
  | p :: r, xs => ∃ ys sa sb, xs = ys ++ [sa, sb] ∧ ys.length = r.length * 2 ∧ SlAt w B p.1 sa ∧ SlAt w B p.2 sb ∧ Stk w B r ys

/-- What holds at the head of a round. -/
def Ls (w : World) (res : Int) (g : Nat) (v : Value) (wr : World) : Prop :=
  ∃ st xs, wr.ownsRow w.heap.size 152 2 v st.length xs ∧ Stk w w.heap.size st xs ∧ cmpSt st = res ∧ sizeSt st = g ∧ sizeSt st ≤ 2097152 ∧ Below w.heap.size w wr

theorem sizeSt_len : ∀ st : List (List V × List V), st.length ≤ sizeSt st
  | [] => Nat.le_refl _
  | x :: r => by unfold sizeSt; have := sizeSt_len r; simp; omega

theorem info_pair : (Tryd.prog.info? 152).map (fun i => (i.zero, i.size, i.bytes)) = some (some (.agg #[.slice none 0 0, .slice none 0 0]), 2, 48) := by kernel_rfl
theorem info_pair_parts : ∃ i, Tryd.prog.info? 152 = some i ∧ i.zero = some (.agg #[.slice none 0 0, .slice none 0 0]) ∧ i.size = 2 ∧ i.bytes = 48 := by
  have h := info_pair
  exact info_parts h

/-- Two values in blocks of their own. -/
structure Boxed (wr wx : World) (px py : Nat) (cx cy : Array Value) : Prop where
  x : wx.heap[px]? = some (.cells cx 53 (0, 0))
  y : wx.heap[py]? = some (.cells cy 53 (0, 0))
  lx : wr.heap.size ≤ px
  ly : wr.heap.size ≤ py
  below : Below wr.heap.size wr wx
theorem heap_new (w : World) (o : Obj) : (w.alloc o).heap[w.heap.size]? = some o := by
  show (w.heap.push o)[w.heap.size]? = _; simp
theorem heap_first (w : World) (o o' : Obj) : ((w.alloc o).alloc o').heap[w.heap.size]? = some o :=
  (Below.heap_alloc (w.alloc o) o' w.heap.size (by simp)).trans (heap_new w o)
theorem heap_second (w : World) (o o' : Obj) : ((w.alloc o).alloc o').heap[w.heap.size + 1]? = some o' := by
  have := heap_new (w.alloc o) o'
  simpa using this
theorem boxed_xy (wr : World) (cx cy : Array Value) : Boxed wr ((wr.alloc (.cells cx 53)).alloc (.cells cy 53)).drew wr.heap.size (wr.heap.size + 1) cx cy where
  x := heap_first wr _ _
  y := heap_second wr _ _
  lx := Nat.le_refl _
  ly := by omega
  below := (two_boxes wr _ _).drew
theorem boxed_yx (wr : World) (cx cy : Array Value) : Boxed wr ((wr.alloc (.cells cy 53)).alloc (.cells cx 53)).drew (wr.heap.size + 1) wr.heap.size cx cy where
  x := heap_second wr _ _
  y := heap_first wr _ _
  lx := by omega
  ly := Nat.le_refl _
  below := (two_boxes wr _ _).drew
/-- The head of the stack written over. -/
structure Wrote (wx wy : World) (g n cap : Nat) (sa sb : Value) : Prop where
  own : ∀ (base : Nat) (e : TypeId) (ys : List Value) (ta tb : Value), wx.ownsRow base e 2 (.slice (some ⟨g, 0, none⟩) (n + 1) cap) (n + 1) (ys ++ [ta, tb]) → ys.length = n * 2 → wy.ownsRow base e 2 (.slice (some ⟨g, 0, none⟩) (n + 1) cap) (n + 1) (ys ++ [sa, sb])
  block : ∀ k, k ≠ g → wy.heap[k]? = wx.heap[k]?
  size : wy.heap.size = wx.heap.size
  below : ∀ B, B ≤ g → ∀ w, Below B w wx → Below B w wy
theorem wrote_mk (wx : World) (g n cap : Nat) (sa sb : Value) : Wrote wx ((wx.setCell ⟨g, n * 2, none⟩ sa).setCell ⟨g, n * 2 + 1, none⟩ sb).drew g n cap sa sb where
  own := by
    intro base e ys ta tb h hy
    have h1 := (h.stored (n * 2) sa).1.stored (n * 2 + 1) sb
    have h2 := h1.1.drew
    have e1 : ((ys ++ [ta, tb]).set (n * 2) sa).set (n * 2 + 1) sb = ys ++ [sa, sb] := by
      rw [List.set_append_right _ _ (by omega), List.set_append_right _ _ (by omega), hy, Nat.sub_self, show n * 2 + 1 - n * 2 = 1 by omega]
      rfl
    rw [e1] at h2
    exact h2
  block := by
    intro k hk
    show ((wx.setCell ⟨g, n * 2, none⟩ sa).setCell ⟨g, n * 2 + 1, none⟩ sb).heap[k]? = _
    rw [Below.heap_setCell _ _ _ _ (by simpa using hk), Below.heap_setCell _ _ _ _ (by simpa using hk)]
  size := by show ((wx.setCell _ _).setCell _ _).heap.size = _; simp
  below := fun B hB w h => ((h.setCell (by simpa using hB) _).setCell (by simpa using hB) _).drew
theorem sl_tail_one {w : World} {B : Nat} {l : List V} {A : Option Addr} {c : Nat} (h : c = 1) (h1 : l.length + 1 ≤ c) (h2 : l.length + 1 ≤ 1048576) : SlAt w B l (.slice A l.length 0) := by
  have e : l = [] := List.eq_nil_of_length_eq_zero (by omega)
  exact ⟨A, 0, rfl, by omega, by omega, .inl e⟩
theorem sl_tail_more {w : World} {B : Nat} {l : List V} {b off c : Nat} (hr : RowAt w B l b (off + 5)) (h1 : l.length + 1 ≤ c) (h2 : l.length + 1 ≤ 1048576) : SlAt w B l (.slice (some ⟨b, off + 5, none⟩) l.length (c - 1)) :=
  ⟨_, _, rfl, by omega, by omega, .inr ⟨b, off + 5, rfl, hr⟩⟩
theorem cell_of_heap {w : World} {p : Nat} {cs : Array Value} {T : TypeId} {fr : Nat × Nat} (h : w.heap[p]? = some (.cells cs T fr)) (j : Nat) : w.cell? ⟨p, j, none⟩ = cs[j]? := by
  simp [World.cell?, h]
theorem own_block {w w' : World} {base n g cap : Nat} {e : TypeId} {size : Nat} {xs : List Value} (h : w.ownsRow base e size (.slice (some ⟨g, 0, none⟩) n cap) n xs) (hb : w'.heap[g]? = w.heap[g]?) :
    w'.ownsRow base e size (.slice (some ⟨g, 0, none⟩) n cap) n xs := by
  refine ⟨h.1, ?_⟩
  rcases h.2 with ⟨h0, _⟩ | ⟨g', cap', cur, e1, hg, hc, r⟩
  · cases h0
  · cases e1; exact .inr ⟨_, _, cur, rfl, hg, hb.trans hc, r⟩
theorem pair_cells {w : World} {a b : Value} {T : TypeId} : ∀ (j : Nat) (u : Value), ([a, b] : List Value)[j]? = some u → (w.alloc (.cells #[a, b] T)).cell? ((⟨w.heap.size, 0, none⟩ : Addr).add j) = some u := by
  intro j u hj
  rw [show (⟨w.heap.size, 0, none⟩ : Addr).add j = ⟨w.heap.size, j, none⟩ from by simp [Addr.add]; exact fun h => h.symm, cell_of_heap (heap_new w _) j]
  simpa using hj
theorem pair_one {A A' : Option Addr} {n n' c c' : Nat} : ∀ u ∈ ([.slice A n c, .slice A' n' c'] : List Value), u.oneCell' = true := by
  intro u hu
  simp only [List.mem_cons, List.not_mem_nil, or_false] at hu
  rcases hu with rfl | rfl <;> rfl
theorem room2 {B : Nat} {w w' : World} (h : Below B w w') (o : Obj) : w.heap.size ≤ (w'.alloc o).heap.size := by
  have := h.size; simp; omega
theorem below_drewN {B : Nat} {w w' : World} (h : Below B w w') (n : Nat) : Below B w (w'.drewN n) := ⟨h.os, h.tape, h.output, h.size, h.block⟩
theorem own_pop {w : World} {base n g cap k : Nat} {e : TypeId} {ys : List Value} {sa sb : Value} (h : w.ownsRow base e 2 (.slice (some ⟨g, 0, none⟩) (n + 1) cap) (n + 1) (ys ++ [sa, sb])) (hy : ys.length = n * 2) :
    (w.drewN k).ownsRow base e 2 (.slice (some ⟨g, 0, none⟩) n cap) n ys := by
  refine ⟨hy, ?_⟩
  rcases h.2 with ⟨h0, _⟩ | ⟨g', cap', cur, e1, hg, hc, h1, h2, h3, h4⟩
  · cases h0
  · cases e1
    refine .inr ⟨_, _, cur, rfl, hg, hc, by omega, h2, h3, ?_⟩
    have := congrArg (List.take (n * 2)) h4
    rw [List.take_take, show min (n * 2) ((n + 1) * 2) = n * 2 by omega, List.take_append_of_le_length (by omega), ← hy, List.take_length] at this
    rw [← hy]; exact this

set_option maxHeartbeats 2000000 in
set_option maxRecDepth 100000 in
theorem lists_any (la lb : List V) (sa sb : Value) (w : World) (ha : SlAt w w.heap.size la sa) (hb : SlAt w w.heap.size lb sb) (hs : sizeL la ≤ 2000000) :
    Calls Tryd.prog 67 #[sa, sb] w (Says (cmpL la lb) w) := by
  obtain ⟨i0, hi, hz0, hz1, hz2⟩ := info_pair_parts
  have hstart : Ls w (cmpL la lb) (sizeSt [(la, lb)]) (.slice (some ⟨w.heap.size, 0, none⟩) 1 1) (w.alloc (.cells #[sa, sb] 152)) := by
    refine ⟨[(la, lb)], [sa, sb], ⟨rfl, .inr ⟨w.heap.size, 1, #[sa, sb], rfl, Nat.le_refl _, ?_, Nat.le_refl _, by decide, rfl, rfl⟩⟩, ⟨[], sa, sb, rfl, rfl, ha, hb, rfl⟩, cmpSt_one la lb, rfl, ?_, (Below.refl _ _).alloc (Nat.le_refl _) _⟩
    · show (w.heap.push _)[w.heap.size]? = _; simp
    · simp only [sizeSt]; omega
  obtain ⟨A, c, rfl, _⟩ := ha
  obtain ⟨A', c', rfl, _⟩ := hb
  have HS := Lib.hid hstart
  clear hstart
  go_enter Tryd.func67, Tryd.ntmps67
  go_wp2_with fail
  go_loopg [5] (sizeSt [(la, lb)]) (fun g v wr => Hid (Ls w (cmpL la lb) g v wr))
  case atStart => exact HS
  case round =>
    clear HS
    obtain ⟨st, xs, hown, hstk, hcmp, hgk, hsz, hbel⟩ := hrel.out
    clear hrel
    cases st with
    | nil =>
      rcases hown.2 with ⟨rfl, _⟩ | ⟨g, cap, cur, rfl, _⟩
      all_goals
        have HC := Lib.hid hcmp
        have HB := Lib.hid hbel
        clear hcmp hbel hown hstk hsz hgk
        go_wp2
        go_ret
        exact ⟨by rw [← HC.out]; rfl, HB.out⟩
    | cons p r =>
      obtain ⟨a, b⟩ := p
      obtain ⟨ys, sa, sb, rfl, hyl, hsa, hsb, hrest⟩ := hstk
      replace hsa : SlAt w w.heap.size a sa := hsa
      replace hsb : SlAt w w.heap.size b sb := hsb
      have hlen : r.length + 1 ≤ 2097152 := Nat.le_trans (sizeSt_len ((a, b) :: r)) hsz
      rcases hown.2 with ⟨_, h0⟩ | ⟨g, cap, cur, rfl, hg0, hg1, hg2, hg3, hg4, hg5⟩
      · simp at h0
      have c0 : wr.cell? ⟨g, r.length * 2, none⟩ = some sa := by
        have := hown.cellAt (r.length * 2) (by simp only [List.length_cons]; omega)
        rw [this, List.getElem?_append_right (by omega), hyl]; simp
      have c1 : wr.cell? ⟨g, r.length * 2 + 1, none⟩ = some sb := by
        have := hown.cellAt (r.length * 2 + 1) (by simp only [List.length_cons]; omega)
        rw [this, List.getElem?_append_right (by omega), hyl]; simp
      have f0 := hown.frozenAt (r.length * 2)
      have f1 := hown.frozenAt (r.length * 2 + 1)
      have hcap : r.length + 1 ≤ cap := by simpa using hg2
      obtain ⟨A, ca, rfl, hA1, hA2, hA3⟩ := hsa
      obtain ⟨A', ca', rfl, hB1, hB2, hB3⟩ := hsb
      have HOWN := Lib.hid hown
      have HCMP := Lib.hid hcmp
      have HGK := Lib.hid hgk
      have HBEL := Lib.hid hbel
      have HREST := Lib.hid hrest
      have HYL := Lib.hid hyl
      have HA3 := Lib.hid hA3
      have HB3 := Lib.hid hB3
      clear hown hcmp hgk hbel hrest hyl hA3 hB3 hg1 hg4 hg5 hg2
      simp only [List.length_cons]
      obtain ⟨n, hn⟩ : ∃ n, n = r.length := ⟨_, rfl⟩
      rw [← hn] at c0 c1 f0 f1 hcap hlen ⊢
      have HN := Lib.hid hn
      clear hn
      cases a with
      | nil =>
        cases b with
        | nil =>
          simp only [List.length_nil] at c0 c1
          go_wp2_with fail
          go_quiet (fail)
          go_wp2_with fail
          go_roundg (sizeSt r)
          case measure => rw [← HGK.out]; simp [sizeSt]; omega
          case rel =>
            refine Lib.hid ⟨r, ys, ?_, HREST.out, ?_, rfl, ?_, below_drewN HBEL.out _⟩
            · rw [HN.out]; exact own_pop HOWN.out HYL.out
            · rw [← HCMP.out]; exact (cmpSt_pop (.inl rfl) rfl).symm
            · have := HGK.out; simp only [sizeSt] at this hsz; omega
        | cons y b =>
          have HF : Hid (cmpL la lb = cmpI 0 ((y :: b).length : Nat)) := Lib.hid (by rw [← HCMP.out]; exact cmpSt_end (.inl rfl) (by simp))
          obtain ⟨m, hm⟩ : ∃ m, m = (y :: b).length := ⟨_, rfl⟩
          have hm1 : 0 < m := by rw [hm]; simp
          rw [← hm] at c1 HF hB1 hB2
          clear hm
          simp only [List.length_nil] at c0
          have q1 : ((0 : Int) != (m : Int)) = true := by simp; omega
          go_wp2_with fail
          go_quiet (fail)
          go_wp2_with fail
          obtain ⟨W2, hW2⟩ : ∃ W2, W2 = wr.drewN nq := ⟨_, rfl⟩
          replace c0 := (show W2.cell? ⟨g, n * 2, none⟩ = wr.cell? ⟨g, n * 2, none⟩ from by rw [hW2]; rfl).trans c0
          replace c1 := (show W2.cell? ⟨g, n * 2 + 1, none⟩ = wr.cell? ⟨g, n * 2 + 1, none⟩ from by rw [hW2]; rfl).trans c1
          have HB2 : Hid (Below w.heap.size w W2) := Lib.hid (by rw [hW2]; exact below_drewN HBEL.out _)
          rw [← hW2]
          clear hW2
          go_quiet ((go_at_call 88; exact Calls.quiet_of_same ((cmpInt_any _ _ _).mono fun _ _ ⟨h, g⟩ => ⟨h, g.symm⟩)))
          go_wp2_with fail
          go_ret
          exact ⟨by rw [HF.out]; rfl, below_drewN HB2.out _⟩
      | cons x a =>
        cases b with
        | nil =>
          have HF : Hid (cmpL la lb = cmpI ((x :: a).length : Nat) 0) := Lib.hid (by rw [← HCMP.out]; exact cmpSt_end (.inr rfl) (by simp))
          obtain ⟨m, hm⟩ : ∃ m, m = (x :: a).length := ⟨_, rfl⟩
          have hm1 : 0 < m := by rw [hm]; simp
          rw [← hm] at c0 HF hA1 hA2
          clear hm
          simp only [List.length_nil] at c1
          have q1 : ((m : Int) != (0 : Int)) = true := by simp; omega
          have q2 : ((m : Int) == (0 : Int)) = false := by simp; omega
          go_wp2_with fail
          go_quiet (fail)
          go_wp2_with fail
          obtain ⟨W2, hW2⟩ : ∃ W2, W2 = wr.drewN nq := ⟨_, rfl⟩
          replace c0 := (show W2.cell? ⟨g, n * 2, none⟩ = wr.cell? ⟨g, n * 2, none⟩ from by rw [hW2]; rfl).trans c0
          replace c1 := (show W2.cell? ⟨g, n * 2 + 1, none⟩ = wr.cell? ⟨g, n * 2 + 1, none⟩ from by rw [hW2]; rfl).trans c1
          have HB2 : Hid (Below w.heap.size w W2) := Lib.hid (by rw [hW2]; exact below_drewN HBEL.out _)
          rw [← hW2]
          clear hW2
          go_quiet ((go_at_call 88; exact Calls.quiet_of_same ((cmpInt_any _ _ _).mono fun _ _ ⟨h, g⟩ => ⟨h, g.symm⟩)))
          go_wp2_with fail
          go_ret
          exact ⟨by rw [HF.out]; rfl, below_drewN HB2.out _⟩
        | cons y b =>
          obtain ⟨ba, oa, rfl, hra⟩ : ∃ ba oa, A = some ⟨ba, oa, none⟩ ∧ RowAt w w.heap.size (x :: a) ba oa := by
            rcases HA3.out with h | h
            · cases h
            · exact h
          obtain ⟨bb, ob, rfl, hrb⟩ : ∃ bb ob, A' = some ⟨bb, ob, none⟩ ∧ RowAt w w.heap.size (y :: b) bb ob := by
            rcases HB3.out with h | h
            · cases h
            · exact h
          clear HA3 HB3
          simp only [List.length_cons] at c0 c1 hA1 hA2 hB1 hB2
          have q1 : ((a.length : Int) + 1 == 0) = false := by simp; omega
          have q2 : ((b.length : Int) + 1 == 0) = false := by simp; omega
          unfold RowAt at hra hrb
          obtain ⟨kx, ix, tx, sx, lx⟩ := x
          obtain ⟨ky, iy, ty, sy, ly⟩ := y
          have hcx := hra.1
          have hcy := hrb.1
          unfold CellsAt at hcx hcy
          obtain ⟨bx, x0, x1, x2, x3, Ax, cx, x4, lx1, lx2, lx3⟩ := hcx
          obtain ⟨by_, y0, y1, y2, y3, Ay, cy, y4, ly1, ly2, ly3⟩ := hcy
          replace x0 := (HBEL.out.cell (p := ⟨ba, oa, none⟩) bx).trans x0
          replace x1 := (HBEL.out.cell (p := ⟨ba, oa + 1, none⟩) bx).trans x1
          replace x2 := (HBEL.out.cell (p := ⟨ba, oa + 2, none⟩) bx).trans x2
          replace x3 := (HBEL.out.cell (p := ⟨ba, oa + 3, none⟩) bx).trans x3
          replace x4 := (HBEL.out.cell (p := ⟨ba, oa + 4, none⟩) bx).trans x4
          replace y0 := (HBEL.out.cell (p := ⟨bb, ob, none⟩) by_).trans y0
          replace y1 := (HBEL.out.cell (p := ⟨bb, ob + 1, none⟩) by_).trans y1
          replace y2 := (HBEL.out.cell (p := ⟨bb, ob + 2, none⟩) by_).trans y2
          replace y3 := (HBEL.out.cell (p := ⟨bb, ob + 3, none⟩) by_).trans y3
          replace y4 := (HBEL.out.cell (p := ⟨bb, ob + 4, none⟩) by_).trans y4
          have HRA := Lib.hid hra
          have HRB := Lib.hid hrb
          have HSX : Hid (SlAt w w.heap.size lx (.slice Ax lx.length cx)) := Lib.hid ⟨Ax, cx, rfl, lx1, lx2, lx3⟩
          have HSY : Hid (SlAt w w.heap.size ly (.slice Ay ly.length cy)) := Lib.hid ⟨Ay, cy, rfl, ly1, ly2, ly3⟩
          clear hra hrb lx3 ly3
          go_upto_region 8 with (fail)
          have hle := HBEL.out.size
          have hba : ba < wr.heap.size := by omega
          have hbb : bb < wr.heap.size := by omega
          have hgg : g < wr.heap.size := (HOWN.out.lt g rfl).2
          have hba' : ba < wr.heap.size + 1 := by omega
          have hbb' : bb < wr.heap.size + 1 := by omega
          have hgg' : g < wr.heap.size + 1 := by omega
          go_cut [7, 8] (fun p q wx => ∃ px py : Nat, p = .pointer (some ⟨px, 0, none⟩) ∧ q = .pointer (some ⟨py, 0, none⟩) ∧ Hid (Boxed wr wx px py #[.int .i64 kx, .int .i64 ix, .int .i64 tx, .string sx, .slice Ax lx.length cx] #[.int .i64 ky, .int .i64 iy, .int .i64 ty, .string sy, .slice Ay ly.length cy]))
          case first =>
            go_region
            all_goals (go_wp2_with fail; go_meet)
            · exact ⟨_, _, rfl, rfl, Lib.hid (boxed_xy wr _ _)⟩
            · exact ⟨_, _, rfl, rfl, Lib.hid (boxed_yx wr _ _)⟩
          case rest =>
            obtain ⟨px, py, rfl, rfl, hbx⟩ := hcut
            obtain ⟨w1, rfl⟩ : ∃ w1 : World, w1 = wc := ⟨_, rfl⟩
            have d0 := (hbx.out.below.cell (p := ⟨g, n * 2, none⟩) hgg).trans c0
            have d1 := (hbx.out.below.cell (p := ⟨g, n * 2 + 1, none⟩) hgg).trans c1
            have e0 := (hbx.out.below.frozen (p := ⟨g, n * 2, none⟩) hgg).trans f0
            have e1 := (hbx.out.below.frozen (p := ⟨g, n * 2 + 1, none⟩) hgg).trans f1
            clear c0 c1 f0 f1 x0 x1 x2 x3 x4 y0 y1 y2 y3 y4
            go_upto_region 9 with (fail)
            go_cut [6] (fun v wy => v = .pointer (some ⟨g, n * 2, none⟩) ∧ Hid (∃ ta tb, Wrote w1 wy g n cap ta tb ∧ SlAt w w.heap.size a ta ∧ SlAt w w.heap.size b tb))
            case first =>
              go_region
              go_wp2_with fail
              all_goals go_meet
              all_goals refine ⟨rfl, Lib.hid ⟨_, _, wrote_mk .., ?_, ?_⟩⟩
              all_goals first
                | exact sl_tail_one (by assumption) hA2 hA1
                | exact sl_tail_one (by assumption) hB2 hB1
                | exact sl_tail_more HRA.out.2 hA2 hA1
                | exact sl_tail_more HRB.out.2 hB2 hB1
            case rest =>
              obtain ⟨rfl, hwr⟩ := hcut
              obtain ⟨w2, rfl⟩ : ∃ w2 : World, w2 = wc := ⟨_, rfl⟩
              obtain ⟨ta, tb, hw, hta, htb⟩ := hwr.out
              have own1 : w1.ownsRow w.heap.size 152 2 (.slice (some ⟨g, 0, none⟩) (n + 1) cap) (n + 1) (ys ++ [.slice (some ⟨ba, oa, none⟩) (a.length + 1) ca, .slice (some ⟨bb, ob, none⟩) (b.length + 1) ca']) := by
                have h := HOWN.out
                simp only [List.length_cons] at h
                rw [← HN.out] at h
                exact own_block h (hbx.out.below.block g hgg)
              have own2 := hw.own _ _ _ _ _ own1 (by rw [HN.out]; exact HYL.out)
              have hpx : px ≠ g := by have := hbx.out.lx; omega
              have hpy : py ≠ g := by have := hbx.out.ly; omega
              have hX := (hw.block px hpx).trans hbx.out.x
              have hY := (hw.block py hpy).trans hbx.out.y
              have bel2 : Below w.heap.size w w2 := hw.below _ hg0 _ (HBEL.out.trans (hbx.out.below.mono hle))
              have u0 := cell_of_heap hX 0
              have u1 := cell_of_heap hX 1
              have u2 := cell_of_heap hX 2
              have u3 := cell_of_heap hX 3
              have u4 := cell_of_heap hX 4
              have v0 := cell_of_heap hY 0
              have v1 := cell_of_heap hY 1
              have v2 := cell_of_heap hY 2
              have v3 := cell_of_heap hY 3
              have v4 := cell_of_heap hY 4
              simp only [List.getElem?_toArray, List.getElem?_cons_zero, List.getElem?_cons_succ] at u0 u1 u2 u3 u4 v0 v1 v2 v3 v4
              have hstk : Stk w w.heap.size ((a, b) :: r) (ys ++ [ta, tb]) := ⟨ys, ta, tb, rfl, HYL.out, hta, htb, HREST.out⟩
              have HSTK := Lib.hid hstk
              have HOWN2 := Lib.hid own2
              have HBEL2 := Lib.hid bel2
              have HVX : Hid (VAt w w.heap.size (.mk kx ix tx sx lx) (.agg #[.int .i64 kx, .int .i64 ix, .int .i64 tx, .string sx, .slice Ax lx.length cx])) := Lib.hid ⟨_, rfl, HSX.out⟩
              have HVY : Hid (VAt w w.heap.size (.mk ky iy ty sy ly) (.agg #[.int .i64 ky, .int .i64 iy, .int .i64 ty, .string sy, .slice Ay ly.length cy])) := Lib.hid ⟨_, rfl, HSY.out⟩
              clear hw hta htb own1 own2 hX hY bel2 hstk hwr hbx d0 d1 e0 e1
              by_cases hk : kx = 7 ∧ ky = 7
              · obtain ⟨rfl, rfl⟩ := hk
                go_upto_region 11 with (fail)
                go_wp2_with (at_builtin; refine wpList_append_own _ rfl _ _ 153 rfl w.heap.size 152 i0 (.agg #[.slice none 0 0, .slice none 0 0]) 2 48 Tryd.underlying153 hi hz0 hz1 hz2 rfl (by decide) _ _ _ rfl (HOWN2.out.alloc _) ⟨w2.heap.size, 0, none⟩ 1 1 [.slice Ax lx.length cx, .slice Ay ly.length cy] rfl rfl pair_cells pair_one (by unfold maxLen; omega) (by omega) (room2 HBEL2.out _) ?_; intro v' w3 hown3 hgrow3 _)
                have HOWN3 := Lib.hid hown3
                have HB3 : Hid (Below w.heap.size w w3) := Lib.hid ((HBEL2.out.alloc HBEL2.out.size _).grown hgrow3 (room2 HBEL2.out _) (fun j hj => by cases hj; exact hg0))
                clear hown3 hgrow3
                go_wp2_with fail
                go_roundg (sizeSt ((lx, ly) :: (a, b) :: r))
                case measure => rw [← HGK.out]; simp only [sizeSt, sizeL, sizeV]; omega
                case rel =>
                  refine Lib.hid ⟨(lx, ly) :: (a, b) :: r, _, ?_, ⟨ys ++ [ta, tb], _, _, rfl, ?_, HSX.out, HSY.out, HSTK.out⟩, ?_, rfl, ?_, HB3.out⟩
                  · have h := HOWN3.out
                    rw [HN.out] at h
                    exact h
                  · have := HYL.out
                    simp only [List.length_append, List.length_cons, List.length_nil]; omega
                  · rw [← HCMP.out]; exact (cmpSt_push (x := .mk 7 ix tx sx lx) (y := .mk 7 iy ty sy ly) rfl rfl).symm
                  · simp only [sizeSt, sizeL, sizeV] at hsz ⊢; omega
              · have hg2 : g < w2.heap.size := (HOWN2.out.lt g rfl).2
                have hno : ¬ ((V.mk kx ix tx sx lx).kind = 7 ∧ (V.mk ky iy ty sy ly).kind = 7) := hk
                have HNO := Lib.hid hno
                have hends : ∃ o, cmp1 (.mk kx ix tx sx lx) (.mk ky iy ty sy ly) = o ∧ (o = 0 → cmpSt ((a, b) :: r) = cmpL la lb) ∧ (o ≠ 0 → cmpL la lb = o) := by
                  refine ⟨_, rfl, fun h => ?_, fun h => ?_⟩
                  · rw [← HCMP.out]; exact (cmpSt_same HNO.out h).symm
                  · rw [← HCMP.out]; exact cmpSt_other HNO.out h
                obtain ⟨o, ho, ho1, ho2⟩ := hends
                have HO := Lib.hid ho
                have HO1 := Lib.hid ho1
                have HO2 := Lib.hid ho2
                clear hno ho ho1 ho2
                by_cases hk1 : kx = 7
                case' pos =>
                  subst hk1
                  have q3 : (ky == 7) = false := by
                    simp only [true_and] at hk
                    simpa using hk
                case' neg =>
                  have q3 : (kx == 7) = false := by simpa using hk1
                all_goals
                  clear hk
                  go_wp2_with fail
                  refine (compareSingle_any (.mk _ ix tx sx lx) (.mk ky iy ty sy ly) _ _ w.heap.size _ (HVX.out.below HBEL2.out (Nat.le_refl _)) (HVY.out.below HBEL2.out (Nat.le_refl _))).mono ?_
                  rintro e w3 ⟨rfl, hb3⟩
                  have HO3 := Lib.hid (own_block HOWN2.out (hb3.block g hg2))
                  have HB3 : Hid (Below w.heap.size w w3) := Lib.hid (HBEL2.out.trans (hb3.mono HBEL2.out.size))
                  rw [HO.out]
                  clear hb3
                  by_cases h0 : o = 0
                  · have q4 : (o != 0) = false := by simpa using h0
                    have H0 := Lib.hid h0
                    clear h0
                    go_wp2_with fail
                    go_roundg (sizeSt ((a, b) :: r))
                    case measure => rw [← HGK.out]; simp only [sizeSt, sizeL, sizeV]; omega
                    case rel =>
                      refine Lib.hid ⟨(a, b) :: r, _, ?_, HSTK.out, HO1.out H0.out, rfl, ?_, HB3.out⟩
                      · simp only [List.length_cons]
                        rw [← HN.out]
                        exact HO3.out
                      · simp only [sizeSt, sizeL, sizeV] at hsz ⊢; omega
                  · have q4 : (o != 0) = true := by simpa using h0
                    have H0 := Lib.hid h0
                    clear h0
                    go_wp2_with fail
                    go_ret
                    exact ⟨by rw [HO2.out H0.out]; rfl, HB3.out⟩
end Go.Proofs.YtfpiannnggkdiaaDoor.Vl
namespace Go.Proofs.YtfpiannnggkdiaaDoor.Vl
open Go.RowKit
open Go.Proofs.YtfpiannnggkdiaaDoor.Vals

mutual
theorem CellsAt.up {w : World} {B C : Nat} (hc : B ≤ C) : ∀ (v : V) (b off : Nat), CellsAt w B v b off → CellsAt w C v b off
  | .mk k i t s l, b, off, h => by
    unfold CellsAt at h ⊢
    obtain ⟨h0, h1, h2, h3, h4, A, c, h5, h6, h7, h8⟩ := h
    refine ⟨by omega, h1, h2, h3, h4, A, c, h5, h6, h7, ?_⟩
    rcases h8 with h8 | ⟨b', off', rfl, h8⟩
    · exact .inl h8
    · exact .inr ⟨b', off', rfl, RowAt.up hc l b' off' h8⟩
theorem RowAt.up {w : World} {B C : Nat} (hc : B ≤ C) : ∀ (l : List V) (b off : Nat), RowAt w B l b off → RowAt w C l b off
  | [], _, _, _ => trivial
  | x :: xs, b, off, h => by
    unfold RowAt at h ⊢
    exact ⟨CellsAt.up hc x b off h.1, RowAt.up hc xs b (off + 5) h.2⟩
end
theorem SlAt.up {w : World} {B C : Nat} {l : List V} {g : Value} (h : SlAt w B l g) (hc : B ≤ C) : SlAt w C l g := by
  obtain ⟨A, c, e, h1, h2, h3⟩ := h
  refine ⟨A, c, e, h1, h2, ?_⟩
  rcases h3 with h3 | ⟨b, off, rfl, h3⟩
  · exact .inl h3
  · exact .inr ⟨b, off, rfl, h3.up hc⟩
theorem VAt.up {w : World} {B C : Nat} {v : V} {g : Value} (h : VAt w B v g) (hc : B ≤ C) : VAt w C v g := by
  cases v
  obtain ⟨sl, e, h⟩ := h
  exact ⟨sl, e, h.up hc⟩

set_option maxHeartbeats 1000000 in
theorem compare_any (x y : V) (g g' : Value) (B : Nat) (w : World) (hx : VAt w B x g) (hy : VAt w B y g') (hB : B ≤ w.heap.size) (hs : sizeV x ≤ 2000000) :
    Calls Tryd.prog 46 #[g, g'] w (Says (cmpV x y) w) := by
  obtain ⟨k, i, t, s, l⟩ := x
  obtain ⟨k', i', t', s', l'⟩ := y
  have HX := Lib.hid hx
  have HY := Lib.hid hy
  obtain ⟨sl, rfl, hl⟩ := hx
  obtain ⟨sl', rfl, hl'⟩ := hy
  by_cases h : k = 7 ∧ k' = 7
  · obtain ⟨rfl, rfl⟩ := h
    have HF : Hid (cmpV (.mk 7 i t s l) (.mk 7 i' t' s' l') = cmpL l l') := Lib.hid (cmpV_list rfl rfl)
    have HL := Lib.hid hl
    have HL' := Lib.hid hl'
    have hsz : sizeL l ≤ 2000000 := by unfold sizeV at hs; omega
    obtain ⟨A, c, rfl, _⟩ := hl
    obtain ⟨A', c', rfl, _⟩ := hl'
    go_enter Tryd.func46, Tryd.ntmps46
    go_wp2_with fail
    have hb2 := fun a b : Obj => two_boxes w a b
    have hup : ∀ a b : Obj, B ≤ ((w.alloc a).alloc b).heap.size := fun a b => Nat.le_trans hB (two_boxes w a b).size
    refine (lists_any l l' _ _ _ ((HL.out.below (hb2 _ _) hB).up (hup _ _)) ((HL'.out.below (hb2 _ _) hB).up (hup _ _)) hsz).mono ?_
    rintro e w' ⟨rfl, hbel⟩
    have HB : Hid (Below w.heap.size w w') := Lib.hid ((hb2 _ _).trans (hbel.mono (hb2 _ _).size))
    clear hbel hb2 hup
    go_wp2
    go_ret
    exact ⟨by rw [HF.out]; rfl, HB.out⟩
  · have HF : Hid (cmpV (.mk k i t s l) (.mk k' i' t' s' l') = cmp1 (.mk k i t s l) (.mk k' i' t' s' l')) := Lib.hid (cmpV_one h)
    rcases (by omega : ¬ k = 7 ∨ (k = 7 ∧ ¬ k' = 7)) with h1 | ⟨rfl, h1⟩
    case' inl => have q1 : (k == 7) = false := by simpa using h1
    case' inr => have q1 : (k' == 7) = false := by simpa using h1
    all_goals
      clear h h1
      go_enter Tryd.func46, Tryd.ntmps46
      go_wp2_with fail
      have hb2 := fun a b : Obj => two_boxes w a b
      refine (compareSingle_any _ _ _ _ B _ (HX.out.below (hb2 _ _) hB) (HY.out.below (hb2 _ _) hB)).mono ?_
      rintro e w' ⟨rfl, hbel⟩
      have HB : Hid (Below w.heap.size w w') := Lib.hid ((hb2 _ _).trans (hbel.mono (hb2 _ _).size))
      clear hbel hb2
      go_wp2
      go_ret
      exact ⟨by rw [HF.out]; rfl, HB.out⟩

mutual
theorem cmpV_bd : ∀ a b : V, -1 ≤ cmpV a b ∧ cmpV a b ≤ 1
  | .mk k i t s l, .mk k' i' t' s' l' => by
    unfold cmpV
    by_cases h : k = 7 ∧ k' = 7
    · rw [if_pos h]; exact cmpL_bd l l'
    · rw [if_neg h]; unfold single cmpS orI cmpI; repeat' split
      all_goals omega
theorem cmpL_bd : ∀ a b : List V, -1 ≤ cmpL a b ∧ cmpL a b ≤ 1
  | [], [] => by simp [cmpL]
  | [], _ :: _ => by simp [cmpL]
  | _ :: _, [] => by simp [cmpL]
  | x :: xs, y :: ys => by
    unfold cmpL orI
    have := cmpV_bd x y
    have := cmpL_bd xs ys
    split <;> omega
end

end Go.Proofs.YtfpiannnggkdiaaDoor.Vl
