/- Properties in memory. -/
import Derived.Test.YtfpiannnggkdiaaDoorCpX
namespace Go.Proofs.YtfpiannnggkdiaaDoor
open Go.RowKit
structure PV where
  nm : ByteArray
  val : V
def V.kind : V → Int | .mk k _ _ _ _ => k
/-- Properties lie one after the other, six cells each, all of them below block B. -/
def PRow (w : World) (B : Nat) : List PV → Nat → Nat → Prop
  | [], _, _ => True
  | p :: r, b, off => (b < B ∧ w.cell? ⟨b, off, none⟩ = some (.string p.nm) ∧ p.nm.size ≤ 1048576 ∧ CellsAt w B p.val b (off + 1)) ∧ PRow w B r b (off + 6)
def PSl (w : World) (B : Nat) (l : List PV) (g : Value) : Prop :=
  ∃ A c, g = .slice A l.length c ∧ l.length ≤ 1048576 ∧ l.length ≤ c ∧ (l = [] ∨ ∃ b off, A = some ⟨b, off, none⟩ ∧ PRow w B l b off)
theorem PRow.get {w : World} {B : Nat} : ∀ (l : List PV) (b off j : Nat), PRow w B l b off → (h : j < l.length) →
    b < B ∧ w.cell? ⟨b, off + j * 6, none⟩ = some (.string l[j].nm) ∧ l[j].nm.size ≤ 1048576 ∧ CellsAt w B l[j].val b (off + j * 6 + 1)
  | [], _, _, _, _, h => absurd h (by simp)
  | p :: r, b, off, 0, h, _ => by
    unfold PRow at h
    simpa using h.1
  | p :: r, b, off, j + 1, h, hj => by
    unfold PRow at h
    have h2 := PRow.get r b (off + 6) j h.2 (by simpa using hj)
    rw [show off + (j + 1) * 6 = off + 6 + j * 6 by omega]
    simpa using h2
theorem PRow.below {w w' : World} {B C : Nat} (hb : Below C w w') (hc : B ≤ C) : ∀ (l : List PV) (b off : Nat), PRow w B l b off → PRow w' B l b off
  | [], _, _, _ => trivial
  | p :: r, b, off, h => by
    unfold PRow at h ⊢
    obtain ⟨⟨h0, h1, hz, h2⟩, h3⟩ := h
    exact ⟨⟨h0, (hb.cell (p := ⟨b, off, none⟩) (by show b < C; omega)).trans h1, hz, h2.below hb hc⟩, PRow.below hb hc r b (off + 6) h3⟩
theorem PRow.up {w : World} {B C : Nat} (hc : B ≤ C) : ∀ (l : List PV) (b off : Nat), PRow w B l b off → PRow w C l b off
  | [], _, _, _ => trivial
  | p :: r, b, off, h => by
    unfold PRow at h ⊢
    obtain ⟨⟨h0, h1, hz, h2⟩, h3⟩ := h
    exact ⟨⟨by omega, h1, hz, h2.up hc⟩, PRow.up hc r b (off + 6) h3⟩
theorem PSl.below {w w' : World} {B C : Nat} {l : List PV} {g : Value} (h : PSl w B l g) (hb : Below C w w') (hc : B ≤ C) : PSl w' B l g := by
  obtain ⟨A, c, e, h1, h2, h3⟩ := h
  refine ⟨A, c, e, h1, h2, ?_⟩
  rcases h3 with h3 | ⟨b, off, rfl, h3⟩
  · exact .inl h3
  · exact .inr ⟨b, off, rfl, h3.below hb hc⟩
theorem PSl.up {w : World} {B C : Nat} {l : List PV} {g : Value} (h : PSl w B l g) (hc : B ≤ C) : PSl w C l g := by
  obtain ⟨A, c, e, h1, h2, h3⟩ := h
  refine ⟨A, c, e, h1, h2, ?_⟩
  rcases h3 with h3 | ⟨b, off, rfl, h3⟩
  · exact .inl h3
  · exact .inr ⟨b, off, rfl, h3.up hc⟩
def prevOf (l : List PV) : Nat → Option ByteArray
  | 0 => none
  | j + 1 => (l[j]?).map (·.nm)
theorem below_drewN {B : Nat} {w W : World} (h : Below B w W) (n : Nat) : Below B w (W.drewN n) := ⟨h.os, h.tape, h.output, h.size, h.block⟩
/-- A property's cells, and the name before it. -/
theorem prop_item {w : World} {l : List PV} {A : Option Addr} {c j : Nat} (h : PSl w w.heap.size l (.slice A l.length c)) (hj : j < l.length) :
    ∃ b off nm kx ix tx sx lx Ax cx, A = some ⟨b, off, none⟩ ∧ l[j] = ⟨nm, .mk kx ix tx sx lx⟩ ∧ b < w.heap.size ∧ w.cell? ⟨b, off + j * 6, none⟩ = some (.string nm) ∧ w.cell? ⟨b, off + j * 6 + 1, none⟩ = some (.int .i64 kx) ∧ w.cell? ⟨b, off + j * 6 + 2, none⟩ = some (.int .i64 ix) ∧ w.cell? ⟨b, off + j * 6 + 3, none⟩ = some (.int .i64 tx) ∧
      w.cell? ⟨b, off + j * 6 + 4, none⟩ = some (.string sx) ∧ w.cell? ⟨b, off + j * 6 + 5, none⟩ = some (.slice Ax lx.length cx) ∧ nm.size ≤ 1048576 ∧ sx.size ≤ 1048576 ∧ lx.length ≤ 1048576 ∧ SlAt w w.heap.size lx (.slice Ax lx.length cx) ∧
      ∀ jp, j = jp + 1 → ∃ q, prevOf l j = some q ∧ w.cell? ⟨b, off + jp * 6, none⟩ = some (.string q) := by
  obtain ⟨A', c', e, h1, h2, h3⟩ := h
  injection e with e1 e2 e3
  subst e1
  rcases h3 with h3 | ⟨b, off, rfl, h3⟩
  · rw [h3] at hj; exact absurd hj (by simp)
  · obtain ⟨g0, gn, gz, hc⟩ := PRow.get l b off j h3 hj
    obtain ⟨nm, kx, ix, tx, sx, lx, hx⟩ : ∃ nm kx ix tx sx lx, l[j] = ⟨nm, .mk kx ix tx sx lx⟩ := by
      generalize l[j] = p
      rcases p with ⟨nm, ⟨kx, ix, tx, sx, lx⟩⟩
      exact ⟨nm, kx, ix, tx, sx, lx, rfl⟩
    rw [hx] at gn gz hc
    unfold CellsAt at hc
    obtain ⟨_, q1, q2, q3, q4, qz, Ax, cx, q5, q6, q7, q8⟩ := hc
    refine ⟨b, off, nm, kx, ix, tx, sx, lx, Ax, cx, rfl, hx, g0, gn, q1, q2, q3, q4, q5, gz, qz, q6, ⟨Ax, cx, rfl, q6, q7, q8⟩, ?_⟩
    intro jp hjp
    subst hjp
    have hjl : jp < l.length := by omega
    refine ⟨l[jp].nm, ?_, (PRow.get l b off jp h3 hjl).2.1⟩
    show (l[jp]?).map (·.nm) = _
    rw [List.getElem?_eq_getElem hjl]; rfl
end Go.Proofs.YtfpiannnggkdiaaDoor
