/- Package text, part 13: what is shown of a string: PlainOf. -/
import Derived.Test.YticdapkljbillaaGreatDoorTxL
import Derived.Test.YticdapkljbillaaGreatDoorShelf
import Derived.WalkKit
import Derived.Lib.Hide
import Derived.Outline
import Derived.Deep.QuietTactic
import Derived.BigQuiet
import Derived.Deep.RegionHeld3
import Derived.Laws.EntriesVeiled
namespace Go.Proofs.YticdapkljbillaaGreatDoor
open Go.RowKit

def shFrom (x : Sp) : Int := if x.kind = 2 then x.from_ + 1 else if x.kind = 3 then x.from_ + 1 else if x.kind = 4 then (if x.shw.toList = [] then (x.to_ : Int) - 2 - x.text.size else (x.to_ : Int) - 2 - x.shw.size) else if x.kind = 7 then x.to_ else x.from_
def shTo (x : Sp) : Int := if x.kind = 3 then (x.to_ : Int) - 1 else if x.kind = 4 then (x.to_ : Int) - 2 else x.to_
theorem ret2 {a b c d : Int} (h1 : a = c) (h2 : b = d) : Ending.returned (.tuple #[.int .i64 a, .int .i64 b]) = .returned (.tuple #[.int .i64 c, .int .i64 d]) := by rw [h1, h2]

theorem below_drewN' {B : Nat} {a w : World} (h : Below B a w) (n : Nat) : Below B a (w.drewN n) := ⟨h.os, h.tape, h.output, h.size, h.block⟩
theorem one_new (w : World) (o : Obj) (n : Nat) : Below w.heap.size w ((w.alloc o).drewN n) := below_drewN' ((Below.refl _ _).alloc (Nat.le_refl _) o) n

/-! ### PlainOf -/
def shownB (s : ByteArray) (x : Sp) : List UInt8 := (s.extract (shFrom x).toNat (shTo x).toNat).data.toList
def shownL (s : ByteArray) (l : List Sp) : List UInt8 := l.flatMap (shownB s)
structure SpOk (s : ByteArray) (x : Sp) : Prop where
  f : x.from_ ≤ 4000000000
  t : x.to_ ≤ 4000000000
  text : x.text.size ≤ 4000000000
  shw : x.shw.size ≤ 4000000000
  lo : 0 ≤ shFrom x
  le : shFrom x ≤ shTo x
  hi : shTo x ≤ s.size

def PlainI (b S : Nat) (s : ByteArray) (done : List Sp) (F : Nat → Prop) (w : World) : Prop :=
  ∃ Fb, Bld b (Lib.byteCells (shownL s done)) Fb w ∧ One w S (.string s) 9 ∧ ¬ Fb S ∧ F = fun k => Fb k ∨ k = S

/-- One span is written. -/
def PlainStep (b S : Nat) (s : ByteArray) (done : List Sp) (x : Sp) (F : Nat → Prop) (w : World) (e : Ending) (w' : World) : Prop :=
  e = .returned (.tuple #[]) ∧ ∃ F', PlainI b S s (done ++ [x]) F' w' ∧ Grew F w F' w'

theorem Bld.isBuilder {b B : Nat} {bs : List Value} {F : Nat → Prop} {w : World} (h : Bld b bs F w) (hF : ∀ k, F k → B ≤ k) : Lib.IsBuilder 45 5 B b bs w := by
  obtain ⟨p, v, hp, hb, hown, hne, rfl⟩ := h
  have h2 : w.ownsRow B 5 1 v bs.length bs := by
    refine ⟨hown.1, ?_⟩
    rcases hown.2 with h | ⟨g, cap, cur, rfl, _, h2⟩
    · exact .inl h
    · exact .inr ⟨g, cap, cur, rfl, hF g (.inr rfl), h2⟩
  rcases hp with rfl | rfl
  · exact .inl ⟨hF b (.inl rfl), v, hb, h2, hne⟩
  · exact .inr ⟨hF b (.inl rfl), v, hb, h2, hne⟩

theorem plain_start (s : ByteArray) (w : World) : PlainI (w.heap.size + 1) w.heap.size s [] (fun k => k = w.heap.size + 1 ∨ k = w.heap.size) ((w.alloc (.cells #[.string s] 9)).alloc (.cells #[.pointer none, .slice none 0 0] 45)) := by
  refine ⟨fun k => k = w.heap.size + 1, ⟨.pointer none, .slice none 0 0, .inl rfl, ?_, World.ownsRow_nil _ _ _ _, by simp [Value.ownBlock], ?_⟩, ?_, by omega, rfl⟩
  · have := heap_alloc_new (w.alloc (.cells #[.string s] 9)) (.cells #[.pointer none, .slice none 0 0] 45)
    simpa using this
  · funext k; simp [Value.ownBlock]
  · unfold One
    rw [Below.heap_alloc _ _ _ (by simp)]
    exact heap_alloc_new w _

end Go.Proofs.YticdapkljbillaaGreatDoor
