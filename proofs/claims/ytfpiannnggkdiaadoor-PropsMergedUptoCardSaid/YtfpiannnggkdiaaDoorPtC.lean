/- Values in memory, as trees. -/
import Derived.Test.YtfpiannnggkdiaaDoorProg
import Derived.WalkKit
import Derived.Lib.Hide
import Derived.Below
namespace Go.Proofs.YtfpiannnggkdiaaDoor
open Go.RowKit

inductive V where
  | mk (k i t : Int) (s : ByteArray) (l : List V)

mutual
/-- A value lies as five cells, all of it below block B. -/
def CellsAt (w : World) (B : Nat) : V → Nat → Nat → Prop
  | .mk k i t s l, b, off => b < B ∧ w.cell? ⟨b, off, none⟩ = some (.int .i64 k) ∧ w.cell? ⟨b, off + 1, none⟩ = some (.int .i64 i) ∧ w.cell? ⟨b, off + 2, none⟩ = some (.int .i64 t) ∧
      w.cell? ⟨b, off + 3, none⟩ = some (.string s) ∧ s.size ≤ 1048576 ∧ ∃ A c, w.cell? ⟨b, off + 4, none⟩ = some (.slice A l.length c) ∧ l.length ≤ 1048576 ∧ l.length ≤ c ∧ (l = [] ∨ ∃ b' off', A = some ⟨b', off', none⟩ ∧ RowAt w B l b' off')
/-- Values lie one after the other. -/
def RowAt (w : World) (B : Nat) : List V → Nat → Nat → Prop
  | [], _, _ => True
  | x :: xs, b, off => CellsAt w B x b off ∧ RowAt w B xs b (off + 5)
end
/-- A slice of values. -/
def SlAt (w : World) (B : Nat) (l : List V) (g : Value) : Prop :=
  ∃ A c, g = .slice A l.length c ∧ l.length ≤ 1048576 ∧ l.length ≤ c ∧ (l = [] ∨ ∃ b off, A = some ⟨b, off, none⟩ ∧ RowAt w B l b off)
/-- A value in hand. -/
def VAt (w : World) (B : Nat) : V → Value → Prop
  | .mk k i t s l, g => s.size ≤ 1048576 ∧ ∃ sl, g = .agg #[.int .i64 k, .int .i64 i, .int .i64 t, .string s, sl] ∧ SlAt w B l sl

mutual
theorem CellsAt.below {w w' : World} {B C : Nat} (hb : Below C w w') (hc : B ≤ C) : ∀ (v : V) (b off : Nat), CellsAt w B v b off → CellsAt w' B v b off
  | .mk k i t s l, b, off, h => by
    unfold CellsAt at h ⊢
    obtain ⟨h0, h1, h2, h3, h4, hz, A, c, h5, h6, h7, h8⟩ := h
    have q : ∀ o, w'.cell? ⟨b, o, none⟩ = w.cell? ⟨b, o, none⟩ := fun o => hb.cell (p := ⟨b, o, none⟩) (by show b < C; omega)
    refine ⟨h0, (q _).trans h1, (q _).trans h2, (q _).trans h3, (q _).trans h4, hz, A, c, (q _).trans h5, h6, h7, ?_⟩
    rcases h8 with h8 | ⟨b', off', rfl, h8⟩
    · exact .inl h8
    · exact .inr ⟨b', off', rfl, RowAt.below hb hc l b' off' h8⟩
theorem RowAt.below {w w' : World} {B C : Nat} (hb : Below C w w') (hc : B ≤ C) : ∀ (l : List V) (b off : Nat), RowAt w B l b off → RowAt w' B l b off
  | [], _, _, _ => trivial
  | x :: xs, b, off, h => by
    unfold RowAt at h ⊢
    exact ⟨CellsAt.below hb hc x b off h.1, RowAt.below hb hc xs b (off + 5) h.2⟩
end
theorem SlAt.below {w w' : World} {B C : Nat} {l : List V} {g : Value} (h : SlAt w B l g) (hb : Below C w w') (hc : B ≤ C) : SlAt w' B l g := by
  obtain ⟨A, c, e, h1, h2, h3⟩ := h
  refine ⟨A, c, e, h1, h2, ?_⟩
  rcases h3 with h3 | ⟨b, off, rfl, h3⟩
  · exact .inl h3
  · exact .inr ⟨b, off, rfl, h3.below hb hc⟩
theorem VAt.below {w w' : World} {B C : Nat} {v : V} {g : Value} (h : VAt w B v g) (hb : Below C w w') (hc : B ≤ C) : VAt w' B v g := by
  cases v
  obtain ⟨hz, sl, e, h⟩ := h
  exact ⟨hz, sl, e, h.below hb hc⟩

mutual
theorem CellsAt.up {w : World} {B C : Nat} (hc : B ≤ C) : ∀ (v : V) (b off : Nat), CellsAt w B v b off → CellsAt w C v b off
  | .mk k i t s l, b, off, h => by
    unfold CellsAt at h ⊢
    obtain ⟨h0, h1, h2, h3, h4, hz, A, c, h5, h6, h7, h8⟩ := h
    refine ⟨by omega, h1, h2, h3, h4, hz, A, c, h5, h6, h7, ?_⟩
    rcases h8 with h8 | ⟨b', off', rfl, h8⟩
    · exact .inl h8
    · exact .inr ⟨b', off', rfl, RowAt.up hc l b' off' h8⟩
theorem RowAt.up {w : World} {B C : Nat} (hc : B ≤ C) : ∀ (l : List V) (b off : Nat), RowAt w B l b off → RowAt w C l b off
  | [], _, _, _ => trivial
  | x :: xs, b, off, h => by
    unfold RowAt at h ⊢
    exact ⟨CellsAt.up hc x b off h.1, RowAt.up hc xs b (off + 5) h.2⟩
end
theorem SlAt.up {w : World} {B C : Nat} {l : List V} {g : Value} (h : SlAt w B l g) (hc : B ≤ C) : SlAt w C l g := by
  obtain ⟨A, c, e, h1, h2, h3⟩ := h
  refine ⟨A, c, e, h1, h2, ?_⟩
  rcases h3 with h3 | ⟨b, off, rfl, h3⟩
  · exact .inl h3
  · exact .inr ⟨b, off, rfl, h3.up hc⟩
theorem VAt.up {w : World} {B C : Nat} {v : V} {g : Value} (h : VAt w B v g) (hc : B ≤ C) : VAt w C v g := by
  cases v
  obtain ⟨hz, sl, e, h⟩ := h
  exact ⟨hz, sl, e, h.up hc⟩

theorem RowAt.get {w : World} {B : Nat} : ∀ (l : List V) (b off k : Nat), RowAt w B l b off → k < l.length → ∃ x, l[k]? = some x ∧ CellsAt w B x b (off + k * 5)
  | [], _, _, _, _, h => absurd h (by simp)
  | x :: xs, b, off, 0, h, _ => by
    unfold RowAt at h
    exact ⟨x, rfl, by simpa using h.1⟩
  | x :: xs, b, off, k + 1, h, hk => by
    unfold RowAt at h
    obtain ⟨y, h1, h2⟩ := RowAt.get xs b (off + 5) k h.2 (by simpa using hk)
    exact ⟨y, by simpa using h1, by rw [show off + (k + 1) * 5 = off + 5 + k * 5 by omega]; exact h2⟩
/-- A value's five cells are the value in hand. -/
theorem CellsAt.hand {w : World} {B : Nat} {x : V} {b off : Nat} (h : CellsAt w B x b off) :
    ∃ k i t s A n c, b < B ∧ w.cell? ⟨b, off, none⟩ = some (.int .i64 k) ∧ w.cell? ⟨b, off + 1, none⟩ = some (.int .i64 i) ∧ w.cell? ⟨b, off + 2, none⟩ = some (.int .i64 t) ∧ w.cell? ⟨b, off + 3, none⟩ = some (.string s) ∧ w.cell? ⟨b, off + 4, none⟩ = some (.slice A n c) ∧
      VAt w B x (.agg #[.int .i64 k, .int .i64 i, .int .i64 t, .string s, .slice A n c]) := by
  obtain ⟨k, i, t, s, l⟩ := x
  unfold CellsAt at h
  obtain ⟨h0, h1, h2, h3, h4, hz, A, c, h5, h6, h7, h8⟩ := h
  exact ⟨k, i, t, s, A, l.length, c, h0, h1, h2, h3, h4, h5, hz, _, rfl, A, c, rfl, h6, h7, h8⟩


/-! ### What CheckValue finds -/
def inR (n a b : Int) : Bool := decide (a ≤ n ∧ n ≤ b)
def ctlB (s : ByteArray) : Bool := s.data.toList.any fun c => !decide (32 ≤ (c.toNat : Int) ∧ (c.toNat : Int) ≠ 127)
def brB (c : UInt8) : Bool := decide ((c.toNat : Int) = 91 ∨ (c.toNat : Int) = 93 ∨ (c.toNat : Int) = 124)
/-- A space at the beginning or at the end. -/
def edgeB (l : List UInt8) : Bool := (l.head? == some 32) || (l.getLast? == some 32)
def textE (s : ByteArray) : Int := if 2000 < s.size then 4 else if ctlB s then 9 else 0
def titleE (s : ByteArray) : Int := if 100 < s.size then 4 else if ctlB s then 9 else if s.size = 0 ∨ edgeB s.data.toList = true ∨ s.data.toList.any brB = true then 1 else 0
def useI (k : Int) : Bool := decide (k = 1 ∨ k = 2 ∨ k = 4 ∨ k = 5)
def useS (k : Int) : Bool := decide (k = 3 ∨ k = 6)
def unusedB (k i t : Int) (s : ByteArray) (n : Nat) : Bool := (decide (i ≠ 0) && !useI k) || (decide (t ≠ 0) && !decide (k = 5)) || (decide (s.size ≠ 0) && !useS k) || (decide (0 < n) && !decide (k = 7))
def rangeE (n a b : Int) : Int := if inR n a b then 0 else 2
theorem rangeE_in {n a b : Int} (h : a ≤ n ∧ n ≤ b) : rangeE n a b = 0 := by unfold rangeE inR; rw [decide_eq_true h]; rfl
theorem rangeE_out {n a b : Int} (h : ¬ (a ≤ n ∧ n ≤ b)) : rangeE n a b = 2 := by unfold rangeE inR; rw [decide_eq_false h]; rfl
def fieldsE (k i t : Int) (s : ByteArray) (n : Nat) : Int :=
  if ¬ (0 ≤ k ∧ k ≤ 7) then 10
  else if unusedB k i t s n = true then 1
  else if k = 1 then rangeE i 0 1
  else if k = 2 then rangeE i (-1000000000) 1000000000
  else if k = 4 then rangeE i 0 100000
  else if k = 5 then (if inR i 0 100000 = false ∨ inR t 0 100000 = false then 2 else if t < i then 5 else 0)
  else if k = 3 then textE s
  else if k = 6 then titleE s
  else 0
def itemE : V → Int
  | .mk k i t s l => if k = 0 ∨ k = 7 then 10 else fieldsE k i t s l.length
def itemsE : List V → Int
  | [] => 0
  | x :: l => if itemE x = 0 then itemsE l else itemE x
def valueE : V → Int
  | .mk k i t s l => if fieldsE k i t s l.length ≠ 0 then fieldsE k i t s l.length else if 20 < l.length then 4 else itemsE l
theorem itemsE_at {l : List V} {j : Nat} (hj : j < l.length) (h : itemsE l = itemsE (l.drop j)) (h0 : itemE l[j] = 0) : itemsE l = itemsE (l.drop (j + 1)) := by
  rw [h, List.drop_eq_getElem_cons hj, itemsE, if_pos h0]
theorem itemsE_hit {l : List V} {j : Nat} (hj : j < l.length) (h : itemsE l = itemsE (l.drop j)) (h0 : itemE l[j] ≠ 0) : itemsE l = itemE l[j] := by
  rw [h, List.drop_eq_getElem_cons hj, itemsE, if_neg h0]
theorem itemsE_end {l : List V} {j : Nat} (hj : j = l.length) (h : itemsE l = itemsE (l.drop j)) : itemsE l = 0 := by
  rw [h, hj, List.drop_length]; rfl
end Go.Proofs.YtfpiannnggkdiaaDoor
