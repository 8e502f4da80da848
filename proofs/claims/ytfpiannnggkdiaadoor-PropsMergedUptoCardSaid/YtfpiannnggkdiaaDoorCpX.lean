/- Values in memory: a cell says what it says; a list of a value may be put into another place. (For copyOf.) slices.Clone at values. copyOf: what is still to be copied (pure). copyOf: its steps (pure). copyOf, walked. -/
import Derived.Test.YtfpiannnggkdiaaDoorPtC
import Derived.WalkKit
import Derived.Lib.Hide
import Derived.Outline
import Derived.Below
import Derived.OwnWalk
import Derived.WalkMore
import Derived.Deep.LoopGhost
import Derived.Deep.QuietTactic
import Derived.BigQuiet
namespace Go.Proofs.YtfpiannnggkdiaaDoor
open Go.RowKit

mutual
def nodesV : V → Nat | .mk _ _ _ _ l => 1 + nodesL l
def nodesL : List V → Nat | [] => 0 | x :: r => nodesV x + nodesL r
end
theorem nodesV_mk (k i t : Int) (s : ByteArray) (l : List V) : nodesV (.mk k i t s l) = 1 + nodesL l := by simp only [nodesV]
theorem nodesL_cons (x : V) (l : List V) : nodesL (x :: l) = nodesV x + nodesL l := by simp only [nodesL]
theorem nodesL_app (a b : List V) : nodesL (a ++ b) = nodesL a + nodesL b := by
  induction a with
  | nil => simp [nodesL]
  | cons x r ih => simp only [List.cons_append, nodesL, ih]; omega

/-! ### The same, with the blocks named by a predicate -/
mutual
def CellsF (w : World) (F : Nat → Prop) : V → Nat → Nat → Prop
  | .mk k i t s l, b, off => F b ∧ w.cell? ⟨b, off, none⟩ = some (.int .i64 k) ∧ w.cell? ⟨b, off + 1, none⟩ = some (.int .i64 i) ∧ w.cell? ⟨b, off + 2, none⟩ = some (.int .i64 t) ∧
      w.cell? ⟨b, off + 3, none⟩ = some (.string s) ∧ s.size ≤ 1048576 ∧ ∃ A c, w.cell? ⟨b, off + 4, none⟩ = some (.slice A l.length c) ∧ l.length ≤ 1048576 ∧ l.length ≤ c ∧ (l = [] ∨ ∃ b' off', A = some ⟨b', off', none⟩ ∧ RowF w F l b' off')
def RowF (w : World) (F : Nat → Prop) : List V → Nat → Nat → Prop
  | [], _, _ => True
  | x :: xs, b, off => CellsF w F x b off ∧ RowF w F xs b (off + 5)
end
def SlF (w : World) (F : Nat → Prop) (l : List V) (g : Value) : Prop :=
  ∃ A c, g = .slice A l.length c ∧ l.length ≤ 1048576 ∧ l.length ≤ c ∧ (l = [] ∨ ∃ b off, A = some ⟨b, off, none⟩ ∧ RowF w F l b off)
mutual
theorem CellsF.keep {w w' : World} {F G : Nat → Prop} (hk : ∀ b, F b → w'.heap[b]? = w.heap[b]?) (hFG : ∀ b, F b → G b) : ∀ (v : V) (b off : Nat), CellsF w F v b off → CellsF w' G v b off
  | .mk k i t s l, b, off, h => by
    unfold CellsF at h ⊢
    obtain ⟨h0, h1, h2, h3, h4, hz, A, c, h5, h6, h7, h8⟩ := h
    have q : ∀ o, w'.cell? ⟨b, o, none⟩ = w.cell? ⟨b, o, none⟩ := fun o => World.cell?_of_block (w := w) (a := ⟨b, o, none⟩) (hk b h0)
    refine ⟨hFG b h0, (q _).trans h1, (q _).trans h2, (q _).trans h3, (q _).trans h4, hz, A, c, (q _).trans h5, h6, h7, ?_⟩
    rcases h8 with h8 | ⟨b', off', rfl, h8⟩
    · exact .inl h8
    · exact .inr ⟨b', off', rfl, RowF.keep hk hFG l b' off' h8⟩
theorem RowF.keep {w w' : World} {F G : Nat → Prop} (hk : ∀ b, F b → w'.heap[b]? = w.heap[b]?) (hFG : ∀ b, F b → G b) : ∀ (l : List V) (b off : Nat), RowF w F l b off → RowF w' G l b off
  | [], _, _, _ => trivial
  | x :: xs, b, off, h => by
    unfold RowF at h ⊢
    exact ⟨CellsF.keep hk hFG x b off h.1, RowF.keep hk hFG xs b (off + 5) h.2⟩
end
theorem SlF.keep {w w' : World} {F G : Nat → Prop} (hk : ∀ b, F b → w'.heap[b]? = w.heap[b]?) (hFG : ∀ b, F b → G b) {l : List V} {g : Value} (h : SlF w F l g) : SlF w' G l g := by
  obtain ⟨A, c, e, h1, h2, h3⟩ := h
  refine ⟨A, c, e, h1, h2, ?_⟩
  rcases h3 with h3 | ⟨b, off, rfl, h3⟩
  · exact .inl h3
  · exact .inr ⟨b, off, rfl, RowF.keep hk hFG l b off h3⟩
mutual
theorem CellsAt.toF {w : World} {B : Nat} {F : Nat → Prop} (hF : ∀ b, b < B → F b) : ∀ (v : V) (b off : Nat), CellsAt w B v b off → CellsF w F v b off
  | .mk k i t s l, b, off, h => by
    unfold CellsAt at h
    unfold CellsF
    obtain ⟨h0, h1, h2, h3, h4, hz, A, c, h5, h6, h7, h8⟩ := h
    refine ⟨hF b h0, h1, h2, h3, h4, hz, A, c, h5, h6, h7, ?_⟩
    rcases h8 with h8 | ⟨b', off', rfl, h8⟩
    · exact .inl h8
    · exact .inr ⟨b', off', rfl, RowAt.toF hF l b' off' h8⟩
theorem RowAt.toF {w : World} {B : Nat} {F : Nat → Prop} (hF : ∀ b, b < B → F b) : ∀ (l : List V) (b off : Nat), RowAt w B l b off → RowF w F l b off
  | [], _, _, _ => by unfold RowF; trivial
  | x :: xs, b, off, h => by
    unfold RowAt at h
    unfold RowF
    exact ⟨CellsAt.toF hF x b off h.1, RowAt.toF hF xs b (off + 5) h.2⟩
end
mutual
theorem CellsF.toAt {w : World} {B : Nat} {F : Nat → Prop} (hF : ∀ b, F b → b < B) : ∀ (v : V) (b off : Nat), CellsF w F v b off → CellsAt w B v b off
  | .mk k i t s l, b, off, h => by
    unfold CellsF at h
    unfold CellsAt
    obtain ⟨h0, h1, h2, h3, h4, hz, A, c, h5, h6, h7, h8⟩ := h
    refine ⟨hF b h0, h1, h2, h3, h4, hz, A, c, h5, h6, h7, ?_⟩
    rcases h8 with h8 | ⟨b', off', rfl, h8⟩
    · exact .inl h8
    · exact .inr ⟨b', off', rfl, RowF.toAt hF l b' off' h8⟩
theorem RowF.toAt {w : World} {B : Nat} {F : Nat → Prop} (hF : ∀ b, F b → b < B) : ∀ (l : List V) (b off : Nat), RowF w F l b off → RowAt w B l b off
  | [], _, _, _ => by unfold RowAt; trivial
  | x :: xs, b, off, h => by
    unfold RowF at h
    unfold RowAt
    exact ⟨CellsF.toAt hF x b off h.1, RowF.toAt hF xs b (off + 5) h.2⟩
end
theorem SlAt.toF {w : World} {B : Nat} {F : Nat → Prop} (hF : ∀ b, b < B → F b) {l : List V} {g : Value} (h : SlAt w B l g) : SlF w F l g := by
  obtain ⟨A, c, e, h1, h2, h3⟩ := h
  refine ⟨A, c, e, h1, h2, ?_⟩
  rcases h3 with h3 | ⟨b, off, rfl, h3⟩
  · exact .inl h3
  · exact .inr ⟨b, off, rfl, h3.toF hF _ _ _⟩
theorem SlF.toAt {w : World} {B : Nat} {F : Nat → Prop} (hF : ∀ b, F b → b < B) {l : List V} {g : Value} (h : SlF w F l g) : SlAt w B l g := by
  obtain ⟨A, c, e, h1, h2, h3⟩ := h
  refine ⟨A, c, e, h1, h2, ?_⟩
  rcases h3 with h3 | ⟨b, off, rfl, h3⟩
  · exact .inl h3
  · exact .inr ⟨b, off, rfl, h3.toAt hF _ _ _⟩

mutual
theorem CellsF.uniq {w : World} {B C : Nat → Prop} : ∀ (v u : V) (b off : Nat), CellsF w B v b off → CellsF w C u b off → v = u
  | .mk k i t s l, .mk k' i' t' s' l', b, off, h, g => by
    unfold CellsF at h g
    obtain ⟨_, h1, h2, h3, h4, _, A, c, h5, _, _, h8⟩ := h
    obtain ⟨_, g1, g2, g3, g4, _, A', c', g5, _, _, g8⟩ := g
    rw [h1] at g1
    rw [h2] at g2
    rw [h3] at g3
    rw [h4] at g4
    rw [h5] at g5
    simp only [Option.some.injEq, Value.int.injEq, Value.string.injEq, Value.slice.injEq, true_and] at g1 g2 g3 g4 g5
    obtain ⟨rfl, hl, _⟩ := g5
    have : l = l' := by
      rcases h8 with h8 | ⟨b1, o1, rfl, h8⟩
      · rw [h8] at hl ⊢
        exact (List.eq_nil_of_length_eq_zero (by simpa using hl.symm)).symm
      · rcases g8 with g8 | ⟨b2, o2, e, g8⟩
        · rw [g8] at hl ⊢
          exact List.eq_nil_of_length_eq_zero (by simpa using hl)
        · simp only [Option.some.injEq, Addr.mk.injEq, and_true] at e
          obtain ⟨rfl, rfl⟩ := e
          exact RowF.uniq l l' b1 o1 hl h8 g8
    rw [g1, g2, g3, g4, this]
theorem RowF.uniq {w : World} {B C : Nat → Prop} : ∀ (l m : List V) (b off : Nat), l.length = m.length → RowF w B l b off → RowF w C m b off → l = m
  | [], [], _, _, _, _, _ => rfl
  | [], _ :: _, _, _, hl, _, _ => by simp at hl
  | _ :: _, [], _, _, hl, _, _ => by simp at hl
  | x :: l, y :: m, b, off, hl, h, g => by
    unfold RowF at h g
    rw [CellsF.uniq x y b off h.1 g.1, RowF.uniq l m b (off + 5) (by simpa using hl) h.2 g.2]
end
theorem SlF.uniq {w : World} {B C : Nat → Prop} {l m : List V} {g : Value} (h : SlF w B l g) (k : SlF w C m g) : l = m := by
  obtain ⟨A, c, rfl, _, _, h8⟩ := h
  obtain ⟨A', c', e, _, _, g8⟩ := k
  simp only [Value.slice.injEq] at e
  obtain ⟨rfl, hl, _⟩ := e
  rcases h8 with h8 | ⟨b1, o1, rfl, h8⟩
  · rw [h8] at hl ⊢
    exact (List.eq_nil_of_length_eq_zero (by simpa using hl.symm)).symm
  · rcases g8 with g8 | ⟨b2, o2, e, g8⟩
    · rw [g8] at hl ⊢
      exact List.eq_nil_of_length_eq_zero (by simpa using hl)
    · simp only [Option.some.injEq, Addr.mk.injEq, and_true] at e
      obtain ⟨rfl, rfl⟩ := e
      exact RowF.uniq l m b1 o1 hl h8 g8

/-- All cells that there were are as they were, but for one. -/
structure Upd (w w' : World) (F : Nat → Prop) (pb po : Nat) : Prop where
  other : ∀ b o, F b → ¬ (b = pb ∧ o = po) → w'.cell? ⟨b, o, none⟩ = w.cell? ⟨b, o, none⟩
theorem Upd.int {w w' : World} {F : Nat → Prop} {pb po : Nat} (h : Upd w w' F pb po) {g : Value} (hp : w.cell? ⟨pb, po, none⟩ = some g) {b o : Nat} (hb : F b) {u : Value} (hu : w.cell? ⟨b, o, none⟩ = some u) (hne : u ≠ g) : w'.cell? ⟨b, o, none⟩ = some u := by
  rw [h.other b o hb ?_, hu]
  rintro ⟨rfl, rfl⟩
  rw [hp] at hu
  exact hne (Option.some.inj hu).symm

mutual
/-- A value that is smaller than the list does not have the cell of the list in it. -/
theorem CellsF.away {w w' : World} {F : Nat → Prop} {pb po : Nat} (hu : Upd w w' F pb po) {A0 : Option Addr} {n0 c0 : Nat} (hp : w.cell? ⟨pb, po, none⟩ = some (.slice A0 n0 c0)) {P : Nat → Prop} {m : List V} (hm : SlF w P m (.slice A0 n0 c0)) {B : Nat → Prop} (hB : ∀ b, B b → F b) :
    ∀ (v : V) (b off : Nat), CellsF w B v b off → nodesV v ≤ nodesL m → CellsF w' B v b off
  | .mk k i t s l, b, off, h, hn => by
    rw [nodesV_mk] at hn
    unfold CellsF at h ⊢
    obtain ⟨h0, h1, h2, h3, h4, hz, A, c, h5, h6, h7, h8⟩ := h
    have hb : F b := hB b h0
    have h5' : w'.cell? ⟨b, off + 4, none⟩ = some (.slice A l.length c) := by
      rw [hu.other b (off + 4) hb ?_, h5]
      rintro ⟨rfl, rfl⟩
      rw [hp] at h5
      simp only [Option.some.injEq] at h5
      have : SlF w B l (.slice A0 n0 c0) := ⟨A, c, h5, h6, h7, h8⟩
      have := SlF.uniq this hm
      subst this
      omega
    refine ⟨h0, hu.int hp hb h1 (by simp), hu.int hp hb h2 (by simp), hu.int hp hb h3 (by simp), hu.int hp hb h4 (by simp), hz, A, c, h5', h6, h7, ?_⟩
    rcases h8 with h8 | ⟨b', off', rfl, h8⟩
    · exact .inl h8
    · exact .inr ⟨b', off', rfl, RowF.away hu hp hm hB l b' off' h8 (by omega)⟩
theorem RowF.away {w w' : World} {F : Nat → Prop} {pb po : Nat} (hu : Upd w w' F pb po) {A0 : Option Addr} {n0 c0 : Nat} (hp : w.cell? ⟨pb, po, none⟩ = some (.slice A0 n0 c0)) {P : Nat → Prop} {m : List V} (hm : SlF w P m (.slice A0 n0 c0)) {B : Nat → Prop} (hB : ∀ b, B b → F b) :
    ∀ (l : List V) (b off : Nat), RowF w B l b off → nodesL l ≤ nodesL m → RowF w' B l b off
  | [], _, _, _, _ => trivial
  | x :: l, b, off, h, hn => by
    rw [nodesL_cons] at hn
    unfold RowF at h ⊢
    exact ⟨CellsF.away hu hp hm hB x b off h.1 (by omega), RowF.away hu hp hm hB l b (off + 5) h.2 (by omega)⟩
end
/-- The list's row, copied to another place. -/
theorem RowF.copied {w w' : World} {F : Nat → Prop} {pb po : Nat} (hu : Upd w w' F pb po) {A0 : Option Addr} {n0 c0 : Nat} (hp : w.cell? ⟨pb, po, none⟩ = some (.slice A0 n0 c0)) {P : Nat → Prop} {m : List V} (hm : SlF w P m (.slice A0 n0 c0)) {B C : Nat → Prop} (hB : ∀ b, B b → F b) (hBC : ∀ b, B b → C b) {b' : Nat} (hb' : C b') :
    ∀ (l : List V) (b off off' : Nat), RowF w B l b off → nodesL l ≤ nodesL m → (∀ q, q < l.length * 5 → w'.cell? ⟨b', off' + q, none⟩ = w.cell? ⟨b, off + q, none⟩) → RowF w' C l b' off'
  | [], _, _, _, _, _, _ => trivial
  | .mk k i t s y :: l, b, off, off', h, hn, hc => by
    rw [nodesL_cons] at hn
    unfold RowF at h ⊢
    obtain ⟨h, hr⟩ := h
    refine ⟨?_, RowF.copied hu hp hm hB hBC hb' l b (off + 5) (off' + 5) hr (by omega) (fun q hq => ?_)⟩
    · rw [nodesV_mk] at hn
      unfold CellsF at h ⊢
      obtain ⟨h0, h1, h2, h3, h4, hz, A, c, h5, h6, h7, h8⟩ := h
      have e := fun q (hq : q < 5) => hc q (by simp only [List.length_cons]; omega)
      refine ⟨hb', (e 0 (by omega)).trans h1, (e 1 (by omega)).trans h2, (e 2 (by omega)).trans h3, (e 3 (by omega)).trans h4, hz, A, c, (e 4 (by omega)).trans h5, h6, h7, ?_⟩
      rcases h8 with h8 | ⟨b1, o1, rfl, h8⟩
      · exact .inl h8
      · exact .inr ⟨b1, o1, rfl, RowF.keep (fun _ _ => rfl) hBC _ _ _ (RowF.away hu hp hm hB y b1 o1 h8 (by omega))⟩
    · have := hc (5 + q) (by simp only [List.length_cons]; omega)
      rw [← Nat.add_assoc, ← Nat.add_assoc] at this
      exact this

mutual
/-- A value in which the list lies at another place is what it was. -/
theorem CellsF.moved {w w' : World} {F : Nat → Prop} {pb po : Nat} (hu : Upd w w' F pb po) {A0 A1 : Option Addr} {n0 c0 c1 : Nat} (hp : w.cell? ⟨pb, po, none⟩ = some (.slice A0 n0 c0)) {P : Nat → Prop} {m : List V} (hm : SlF w P m (.slice A0 n0 c0))
    {C : Nat → Prop} (hp' : w'.cell? ⟨pb, po, none⟩ = some (.slice A1 n0 c1)) (hm' : SlF w' C m (.slice A1 n0 c1)) {B : Nat → Prop} (hB : ∀ b, B b → F b) (hBC : ∀ b, B b → C b) :
    ∀ (v : V) (b off : Nat), CellsF w B v b off → CellsF w' C v b off
  | .mk k i t s l, b, off, h => by
    unfold CellsF at h ⊢
    obtain ⟨h0, h1, h2, h3, h4, hz, A, c, h5, h6, h7, h8⟩ := h
    have hb : F b := hB b h0
    refine ⟨hBC b h0, hu.int hp hb h1 (by simp), hu.int hp hb h2 (by simp), hu.int hp hb h3 (by simp), hu.int hp hb h4 (by simp), hz, ?_⟩
    by_cases e : b = pb ∧ off + 4 = po
    · obtain ⟨rfl, rfl⟩ := e
      rw [hp] at h5
      simp only [Option.some.injEq] at h5
      have : SlF w B l (.slice A0 n0 c0) := ⟨A, c, h5, h6, h7, h8⟩
      have := SlF.uniq this hm
      subst this
      obtain ⟨A2, c2, e2, s1, s2, s3⟩ := hm'
      exact ⟨A2, c2, by rw [hp', e2], s1, s2, s3⟩
    · refine ⟨A, c, by rw [hu.other b (off + 4) hb e, h5], h6, h7, ?_⟩
      rcases h8 with h8 | ⟨b1, o1, rfl, h8⟩
      · exact .inl h8
      · exact .inr ⟨b1, o1, rfl, RowF.moved hu hp hm hp' hm' hB hBC l b1 o1 h8⟩
theorem RowF.moved {w w' : World} {F : Nat → Prop} {pb po : Nat} (hu : Upd w w' F pb po) {A0 A1 : Option Addr} {n0 c0 c1 : Nat} (hp : w.cell? ⟨pb, po, none⟩ = some (.slice A0 n0 c0)) {P : Nat → Prop} {m : List V} (hm : SlF w P m (.slice A0 n0 c0))
    {C : Nat → Prop} (hp' : w'.cell? ⟨pb, po, none⟩ = some (.slice A1 n0 c1)) (hm' : SlF w' C m (.slice A1 n0 c1)) {B : Nat → Prop} (hB : ∀ b, B b → F b) (hBC : ∀ b, B b → C b) :
    ∀ (l : List V) (b off : Nat), RowF w B l b off → RowF w' C l b off
  | [], _, _, _ => trivial
  | x :: l, b, off, h => by
    unfold RowF at h ⊢
    exact ⟨CellsF.moved hu hp hm hp' hm' hB hBC x b off h.1, RowF.moved hu hp hm hp' hm' hB hBC l b (off + 5) h.2⟩
end
theorem SlF.moved {w w' : World} {F : Nat → Prop} {pb po : Nat} (hu : Upd w w' F pb po) {A0 A1 : Option Addr} {n0 c0 c1 : Nat} (hp : w.cell? ⟨pb, po, none⟩ = some (.slice A0 n0 c0)) {P : Nat → Prop} {m : List V} (hm : SlF w P m (.slice A0 n0 c0))
    {C : Nat → Prop} (hp' : w'.cell? ⟨pb, po, none⟩ = some (.slice A1 n0 c1)) (hm' : SlF w' C m (.slice A1 n0 c1)) {B : Nat → Prop} (hB : ∀ b, B b → F b) (hBC : ∀ b, B b → C b) {l : List V} {g : Value} (h : SlF w B l g) : SlF w' C l g := by
  obtain ⟨A, c, e, h6, h7, h8⟩ := h
  refine ⟨A, c, e, h6, h7, ?_⟩
  rcases h8 with h8 | ⟨b1, o1, rfl, h8⟩
  · exact .inl h8
  · exact .inr ⟨b1, o1, rfl, RowF.moved hu hp hm hp' hm' hB hBC l b1 o1 h8⟩
end Go.Proofs.YtfpiannnggkdiaaDoor
namespace Go.Proofs.YtfpiannnggkdiaaDoor
open Go.RowKit

/-- The cells of a row of values. -/
theorem row_news {w : World} {B : Nat} : ∀ (l : List V) (b off : Nat), RowAt w B l b off → ∃ news : List Value, news.length = l.length * 5 ∧ (∀ j u, news[j]? = some u → w.cell? ⟨b, off + j, none⟩ = some u) ∧ ∀ u ∈ news, u.oneCell' = true
  | [], _, _, _ => ⟨[], rfl, fun j u h => by simp at h, fun _ h => by simp at h⟩
  | .mk k i t s y :: l, b, off, h => by
    unfold RowAt at h
    obtain ⟨h, hr⟩ := h
    obtain ⟨news, g1, g2, g3⟩ := row_news l b (off + 5) hr
    unfold CellsAt at h
    obtain ⟨h0, h1, h2, h3, h4, hz, A, c, h5, h6, h7, h8⟩ := h
    refine ⟨.int .i64 k :: .int .i64 i :: .int .i64 t :: .string s :: .slice A y.length c :: news, by simp [g1]; omega, fun j u hj => ?_, fun u hu => ?_⟩
    · match j, hj with
      | 0, hj => simp at hj; rw [← hj]; exact h1
      | 1, hj => simp at hj; rw [← hj]; exact h2
      | 2, hj => simp at hj; rw [← hj]; exact h3
      | 3, hj => simp at hj; rw [← hj]; exact h4
      | 4, hj => simp at hj; rw [← hj]; exact h5
      | j + 5, hj =>
        have := g2 j u (by simpa using hj)
        rw [show off + (j + 5) = off + 5 + j by omega]
        exact this
    · simp only [List.mem_cons] at hu
      rcases hu with rfl | rfl | rfl | rfl | rfl | hu
      · rfl
      · rfl
      · rfl
      · rfl
      · rfl
      · exact g3 u hu
theorem infoV : (Tryd.prog.info? 53).map (fun i => (i.zero, i.size, i.bytes)) = some (some (.agg #[.int .i64 0, .int .i64 0, .int .i64 0, .string ⟨#[]⟩, .slice none 0 0]), 5, 64) := by kernel_rfl
/-- A list of values, cloned. -/
def Cloned (l : List V) (A : Option Addr) (w : World) (e : Ending) (w' : World) : Prop :=
  ∃ A' c', e = .returned (.slice A' l.length c') ∧ l.length ≤ c' ∧ Below w.heap.size w w' ∧
    (l = [] ∨ ∃ b off b' cur, A = some ⟨b, off, none⟩ ∧ A' = some ⟨b', 0, none⟩ ∧ w.heap.size ≤ b' ∧ w'.heap[b']? = some (.cells cur 53 (0, 0)) ∧ l.length * 5 ≤ cur.size ∧ ∀ q, q < l.length * 5 → w'.cell? ⟨b', q, none⟩ = w.cell? ⟨b, off + q, none⟩)

set_option maxRecDepth 100000 in
set_option maxHeartbeats 4000000 in
theorem valClone_any (l : List V) (A : Option Addr) (c : Nat) (w : World) (hl : SlAt w w.heap.size l (.slice A l.length c)) (h0 : 0 < l.length) :
    Calls Tryd.prog 76 #[.slice A l.length c] w (Cloned l A w) := by
  obtain ⟨A', c', e, h1, h2, h3⟩ := hl
  injection e with e1 e2 e3
  subst e1 e3
  rcases h3 with h3 | ⟨b, off, rfl, h3⟩
  · rw [h3] at h0; exact absurd h0 (by simp)
  obtain ⟨news, g1, g2, g3⟩ := row_news l b off h3
  obtain ⟨i0, hi, hz0, hz1, hz2⟩ := info_parts infoV
  obtain ⟨n, hn⟩ : ∃ n, n = l.length := ⟨_, rfl⟩
  have HN := Lib.hid hn
  rw [← hn] at g1 h0 h1 h2 ⊢
  have hbl : b < w.heap.size := World.block_lt_of_cell? w _ (g2 0 _ (List.getElem?_eq_getElem (by omega)))
  have HNEWS : Hid (∀ j u, news[j]? = some u → (w.alloc (.cells #[] 53)).cell? ((⟨b, off, none⟩ : Addr).add j) = some u) := Lib.hid (fun j u h => by
    have h1 := g2 j u h
    have h2 : (⟨b, off, none⟩ : Addr).add j = ⟨b, off + j, none⟩ := by
      unfold Addr.add
      split
      · rename_i h0; subst h0; rfl
      · rfl
    rw [h2, ((Below.refl _ w).alloc (Nat.le_refl _) _).cell hbl]
    exact h1)
  have HOWN : Hid ((w.alloc (.cells #[] 53)).ownsRow w.heap.size 53 5 (.slice (some ⟨w.heap.size, 0, none⟩) 0 0) 0 []) := Lib.hid ⟨rfl, .inr ⟨w.heap.size, 0, #[], rfl, Nat.le_refl _, heap_alloc_new w _, Nat.le_refl _, Nat.zero_le _, rfl, rfl⟩⟩
  have HG3 := Lib.hid g3
  have HG2 := Lib.hid g2
  have hop : ∀ W : World, (binOp .eql 51 (.slice (some ⟨b, off, none⟩) n c) (.slice none 0 0)).run Tryd.prog W = .ok (.bool false) W := fun _ => rfl
  clear h3 g2 g3 hn
  go_enter Tryd.func76, Tryd.ntmps76
  go_wp2_with (at_builtin; refine wpList_append_own _ rfl _ _ 51 rfl w.heap.size 53 i0 _ 5 64 Tryd.underlying51 hi hz0 hz1 hz2 rfl (by omega) _ 0 [] rfl HOWN.out ⟨b, off, none⟩ n c news rfl g1 HNEWS.out HG3.out (by unfold maxLen; omega) (by omega) (by simp) ?_)
  intro v' w4 hown4 hgrow4 _
  have hbel4 : Below w.heap.size w w4 := ((Below.refl _ w).alloc (Nat.le_refl _) _).grown hgrow4 (by simp) (fun k hk => by simp [Value.ownBlock] at hk; omega)
  have HO := Lib.hid hown4
  have HB := Lib.hid hbel4
  obtain ⟨A', c', cur, rfl, hA⟩ : ∃ A' c' cur, v' = .slice A' n c' ∧ ∃ b', A' = some ⟨b', 0, none⟩ ∧ w.heap.size ≤ b' ∧ w4.heap[b']? = some (.cells cur 53 (0, 0)) ∧ n ≤ c' ∧ n * 5 ≤ cur.size := by
    rcases hown4.2 with ⟨_, e⟩ | ⟨g, cap, cur, e, k1, k2, k3, k4, k5, k6⟩
    · omega
    · exact ⟨_, cap, cur, e, g, rfl, k1, k2, k3, by rw [k5]; exact Nat.mul_le_mul_right _ k3⟩
  obtain ⟨b', rfl, k1, k2, k3, k4⟩ := hA
  have HC : Hid (∀ q, q < n * 5 → w4.cell? ⟨b', q, none⟩ = w.cell? ⟨b, off + q, none⟩) := Lib.hid (fun q hq => by
    have h1 := hown4.cellAt q (by omega)
    have h2 : news[q]? = some (news[q]'(by omega)) := List.getElem?_eq_getElem (by omega)
    rw [h1, h2, HG2.out q _ h2])
  have HX : Hid (Cloned l (some ⟨b, off, none⟩) w (.returned (.slice (some ⟨b', 0, none⟩) n c')) w4) := Lib.hid ⟨_, c', by rw [HN.out], by rw [← HN.out]; exact k3, hbel4, .inr ⟨b, off, b', cur, rfl, rfl, k1, k2, by rw [← HN.out]; exact k4, by rw [← HN.out]; exact HC.out⟩⟩
  clear hown4 hgrow4 hbel4 k1 k2 k3 k4 HC HO HOWN HNEWS
  go_wp2_with fail
  go_ret
  exact HX.out
end Go.Proofs.YtfpiannnggkdiaaDoor
namespace Go.Proofs.YtfpiannnggkdiaaDoor
open Go.RowKit

theorem lt_of_blkC {w : World} {B : Nat} {o : Obj} (h : w.heap[B]? = some o) : B < w.heap.size := by
  obtain ⟨h, _⟩ := Array.getElem?_eq_some_iff.1 h; exact h
def items : V → List V | .mk _ _ _ _ l => l
/-- A place of a value whose items are still to be copied. -/
structure Pend where
  b : Nat
  off : Nat
  l : List V
def Pend.ptr (p : Pend) : Value := .pointer (some ⟨p.b, p.off, none⟩)
def resBox : Obj := .cells #[.int .i64 0, .int .i64 0, .int .i64 0, .string ⟨#[]⟩, .slice none 0 0] 53 (0, 0)
structure PendOk (N : Nat) (F : Nat → Prop) (wx : World) (p : Pend) : Prop where
  inF : F p.b
  ge : N ≤ p.b
  blk : ∃ cur, wx.heap[p.b]? = some (.cells cur 53 (0, 0)) ∧ p.off + 4 < cur.size
  sl : ∃ A c, wx.cell? ⟨p.b, p.off + 4, none⟩ = some (.slice A p.l.length c) ∧ SlF wx F p.l (.slice A p.l.length c)
theorem PendOk.keep {N : Nat} {F G : Nat → Prop} {wx wy : World} {p : Pend} (h : PendOk N F wx p) (hk : ∀ b, F b → wy.heap[b]? = wx.heap[b]?) (hFG : ∀ b, F b → G b) : PendOk N G wy p := by
  obtain ⟨h1, h2, ⟨cur, h3, h4⟩, A, c, h5, h6⟩ := h
  exact ⟨hFG _ h1, h2, ⟨cur, (hk _ h1).trans h3, h4⟩, A, c, (World.cell?_of_block (w := wx) (a := ⟨p.b, p.off + 4, none⟩) (hk _ h1)).trans h5, h6.keep hk hFG⟩
/-- The blocks of a world after the change of one place. -/
def Blks (F : Nat → Prop) (wx wy : World) : Prop := ∀ b cur, F b → wx.heap[b]? = some (.cells cur 53 (0, 0)) → ∃ cur', wy.heap[b]? = some (.cells cur' 53 (0, 0)) ∧ cur'.size = cur.size
theorem PendOk.upd {N : Nat} {F G : Nat → Prop} {wx wy : World} {p q : Pend} {A0 A1 : Option Addr} {c0 c1 : Nat} (hq : PendOk N F wx q) (hp : wx.cell? ⟨p.b, p.off + 4, none⟩ = some (.slice A0 p.l.length c0)) (hm : SlF wx F p.l (.slice A0 p.l.length c0))
    (hU : Upd wx wy F p.b (p.off + 4)) (hB : Blks F wx wy) (hp' : wy.cell? ⟨p.b, p.off + 4, none⟩ = some (.slice A1 p.l.length c1)) (hm' : SlF wy G p.l (.slice A1 p.l.length c1)) (hFG : ∀ b, F b → G b) : PendOk N G wy q := by
  obtain ⟨h1, h2, ⟨cur, h3, h4⟩, A, c, h5, h6⟩ := hq
  obtain ⟨cur', g3, g4⟩ := hB _ _ h1 h3
  refine ⟨hFG _ h1, h2, ⟨cur', g3, by omega⟩, ?_⟩
  by_cases e : q.b = p.b ∧ q.off + 4 = p.off + 4
  · obtain ⟨e1, e2⟩ := e
    rw [e1, e2, hp] at h5
    have h5' := Option.some.inj h5
    rw [← h5'] at h6
    have hl := SlF.uniq h6 hm
    rw [e1, e2, hl]
    exact ⟨A1, c1, hp', hm'⟩
  · exact ⟨A, c, by rw [hU.other _ _ h1 e, h5], SlF.moved hU hp hm hp' hm' (fun _ h => h) hFG h6⟩

structure CpI (w : World) (B0 : Nat) (x : V) (P : List Pend) (tv : Value) (F : Nat → Prop) (wx : World) : Prop where
  bel : Below w.heap.size w wx
  flt : ∀ b, F b → b < wx.heap.size
  fin : ∀ b, F b → b < B0 ∨ w.heap.size ≤ b
  box : CellsF wx F x w.heap.size 0
  res : wx.heap[w.heap.size + 1]? = some resBox
  nores : ¬ F (w.heap.size + 1)
  own : wx.ownsRow (w.heap.size + 2) 144 1 tv P.length (P.map Pend.ptr)
  nown : ∀ g, tv.ownBlock = some g → ¬ F g
  pend : ∀ p ∈ P, PendOk w.heap.size F wx p
theorem own_kept {w w' : World} {base n size : Nat} {e : TypeId} {v : Value} {xs : List Value} (h : w.ownsRow base e size v n xs) (hk : ∀ g, v.ownBlock = some g → w'.heap[g]? = w.heap[g]?) : w'.ownsRow base e size v n xs := by
  refine ⟨h.1, ?_⟩
  rcases h.2 with h0 | ⟨g, cap, cur, e1, hg, hc, r⟩
  · exact .inl h0
  · exact .inr ⟨g, cap, cur, e1, hg, (hk g (by rw [e1]; rfl)).trans hc, r⟩
theorem own_pop {w : World} {base n cap : Nat} {e : TypeId} {a : Option Addr} {xs : List Value} {y : Value} (h : w.ownsRow base e 1 (.slice a (n + 1) cap) (n + 1) (xs ++ [y])) : w.ownsRow base e 1 (.slice a n cap) n xs := by
  have hl := h.1
  simp at hl
  refine ⟨by omega, ?_⟩
  rcases h.2 with ⟨e1, h0⟩ | ⟨g, cap', cur, e1, hg, hc, h2, h3, h4, h5⟩
  · simp at h0
  · simp only [Value.slice.injEq] at e1
    obtain ⟨rfl, _, rfl⟩ := e1
    refine .inr ⟨g, cap, cur, rfl, hg, hc, by omega, h3, h4, ?_⟩
    have := congrArg (List.take n) h5
    rw [List.take_take, List.take_left' (by omega)] at this
    rw [Nat.mul_one, ← this]
    congr 1
    omega
/-- A step: the last place's items lie elsewhere now. -/
theorem CpI.step {w : World} {B0 : Nat} {x : V} {P : List Pend} {p : Pend} {tv tv' : Value} {F G : Nat → Prop} {wx wy : World} {A0 A1 : Option Addr} {c0 c1 : Nat} (h : CpI w B0 x (P ++ [p]) tv F wx) (hp : wx.cell? ⟨p.b, p.off + 4, none⟩ = some (.slice A0 p.l.length c0)) (hm : SlF wx F p.l (.slice A0 p.l.length c0))
    (hU : Upd wx wy F p.b (p.off + 4)) (hB : Blks F wx wy) (hp' : wy.cell? ⟨p.b, p.off + 4, none⟩ = some (.slice A1 p.l.length c1)) (hm' : SlF wy G p.l (.slice A1 p.l.length c1)) (hFG : ∀ b, F b → G b)
    (hbel : Below w.heap.size wx wy) (hG : ∀ b, G b → b < wy.heap.size) (hfin : ∀ b, G b → b < B0 ∨ w.heap.size ≤ b) (hGn : ∀ b, b < wx.heap.size → G b → F b) (hres : wy.heap[w.heap.size + 1]? = wx.heap[w.heap.size + 1]?)
    (hown : wy.ownsRow (w.heap.size + 2) 144 1 tv' P.length (P.map Pend.ptr)) (htv : ∀ g, tv'.ownBlock = some g → tv.ownBlock = some g ∧ g < wx.heap.size) : CpI w B0 x P tv' G wy :=
  ⟨h.bel.trans (hbel.mono (Nat.le_refl _)), hG, hfin, CellsF.moved hU hp hm hp' hm' (fun _ h => h) hFG x _ _ h.box, hres.trans h.res,
    fun e => h.nores (hGn _ (lt_of_blkC h.res) e), hown, fun g hg e => h.nown g (htv g hg).1 (hGn g (htv g hg).2 e), fun q hq => (h.pend q (by simp [hq])).upd hp hm hU hB hp' hm' hFG⟩
end Go.Proofs.YtfpiannnggkdiaaDoor
namespace Go.Proofs.YtfpiannnggkdiaaDoor
open Go.RowKit

theorem set_blk {W : World} {b o : Nat} {cur : Array Value} {T : TypeId} {fr : Nat × Nat} (h : W.heap[b]? = some (.cells cur T fr)) (u : Value) : (W.setCell ⟨b, o, none⟩ u).heap[b]? = some (.cells (cur.setIfInBounds o u) T fr) := by
  simp [World.setCell, Array.getElem?_modify, h]
theorem set_same {W : World} {b o : Nat} {cur : Array Value} {T : TypeId} {fr : Nat × Nat} (h : W.heap[b]? = some (.cells cur T fr)) (ho : o < cur.size) (u : Value) : (W.setCell ⟨b, o, none⟩ u).cell? ⟨b, o, none⟩ = some u := by
  rw [cell_of_row _ b o _ T fr (set_blk h u), Array.getElem?_setIfInBounds_self_of_lt ho]
theorem set_other {W : World} {b o : Nat} {cur : Array Value} {T : TypeId} {fr : Nat × Nat} (h : W.heap[b]? = some (.cells cur T fr)) (u : Value) (b' o' : Nat) (hne : ¬ (b' = b ∧ o' = o)) : (W.setCell ⟨b, o, none⟩ u).cell? ⟨b', o', none⟩ = W.cell? ⟨b', o', none⟩ := by
  by_cases e : b' = b
  · subst e
    rw [cell_of_row _ b' o' _ T fr (set_blk h u), cell_of_row _ b' o' _ T fr h, Array.getElem?_setIfInBounds_ne (fun e => hne ⟨rfl, e.symm⟩)]
  · exact World.cell?_of_block (w := W) (a := ⟨b', o', none⟩) (Below.heap_setCell W ⟨b, o, none⟩ u b' e)
theorem set_blks {W : World} {F : Nat → Prop} {wx : World} {b o : Nat} (hk : ∀ b, F b → W.heap[b]? = wx.heap[b]?) (u : Value) : Blks F wx (W.setCell ⟨b, o, none⟩ u) := by
  intro b' cur hb h
  by_cases e : b' = b
  · subst e
    exact ⟨_, set_blk ((hk _ hb).trans h) u, by simp⟩
  · exact ⟨cur, (Below.heap_setCell W ⟨b, o, none⟩ u b' e).trans ((hk _ hb).trans h), rfl⟩
theorem nil_any (w : World) (F : Nat → Prop) : SlF w F [] (.slice none 0 0) := ⟨none, 0, rfl, by simp, by simp, .inl rfl⟩

/-- What is left to do. -/
def left : List Pend → Nat | [] => 0 | p :: r => 1 + nodesL p.l + left r
theorem left_app (a b : List Pend) : left (a ++ b) = left a + left b := by
  induction a with
  | nil => simp [left]
  | cons p r ih => simp only [List.cons_append, left, ih]; omega
theorem left_len (P : List Pend) : P.length ≤ left P := by
  induction P with
  | nil => simp [left]
  | cons p r ih => simp only [List.length_cons, left]; omega
/-- The items of a clone, the first k of them. -/
def kidsF (b : Nat) : Nat → List V → List Pend | _, [] => [] | j, x :: r => ⟨b, j * 5, items x⟩ :: kidsF b (j + 1) r
def kids (b : Nat) (l : List V) (k : Nat) : List Pend := kidsF b 0 (l.take k)
theorem kidsF_left (b : Nat) : ∀ (l : List V) (j : Nat), left (kidsF b j l) = nodesL l
  | [], _ => by simp [kidsF, left, nodesL]
  | .mk k i t s y :: r, j => by
    simp only [kidsF, left, nodesL, nodesV, items, kidsF_left b r]
theorem kidsF_app (b : Nat) : ∀ (l m : List V) (j : Nat), kidsF b j (l ++ m) = kidsF b j l ++ kidsF b (j + l.length) m
  | [], m, j => by simp [kidsF]
  | x :: r, m, j => by
    simp only [List.cons_append, kidsF, kidsF_app b r m, List.length_cons]
    rw [show j + 1 + r.length = j + (r.length + 1) by omega]
theorem kids_next {b : Nat} {l : List V} {k : Nat} (h : k < l.length) : kids b l (k + 1) = kids b l k ++ [⟨b, k * 5, items l[k]⟩] := by
  unfold kids
  rw [List.take_succ_eq_append_getElem h, kidsF_app, List.length_take, Nat.min_eq_left (by omega), Nat.zero_add]
  rfl
theorem kids_all (b : Nat) (l : List V) : left (kids b l l.length) = nodesL l := by unfold kids; rw [List.take_length, kidsF_left]
theorem kidsF_len (b : Nat) : ∀ (l : List V) (j : Nat), (kidsF b j l).length = l.length
  | [], _ => rfl
  | x :: r, j => by simp [kidsF, kidsF_len b r]
theorem row_item {w : World} {F : Nat → Prop} : ∀ (l : List V) (b off j : Nat), RowF w F l b off → (h : j < l.length) → CellsF w F l[j] b (off + j * 5)
  | [], _, _, _, _, h => absurd h (by simp)
  | x :: xs, b, off, 0, h, _ => by
    unfold RowF at h
    simpa using h.1
  | x :: xs, b, off, j + 1, h, hj => by
    unfold RowF at h
    have := row_item xs b (off + 5) j h.2 (by simpa using hj)
    rw [show off + (j + 1) * 5 = off + 5 + j * 5 by omega]
    simpa using this
theorem items_at {w : World} {F : Nat → Prop} {v : V} {b off : Nat} (h : CellsF w F v b off) : ∃ A c, w.cell? ⟨b, off + 4, none⟩ = some (.slice A (items v).length c) ∧ SlF w F (items v) (.slice A (items v).length c) := by
  obtain ⟨k, i, t, s, l⟩ := v
  unfold CellsF at h
  obtain ⟨h0, h1, h2, h3, h4, hz, A, c, h5, h6, h7, h8⟩ := h
  exact ⟨A, c, h5, A, c, rfl, h6, h7, h8⟩

/-- The last place has no items: they are nil now. -/
theorem CpI.drained {w : World} {B0 : Nat} {x : V} {P : List Pend} {p : Pend} {a : Option Addr} {cap : Nat} {F : Nat → Prop} {wx : World} (h : CpI w B0 x (P ++ [p]) (.slice a (P.length + 1) cap) F wx) (h0 : p.l = []) :
    CpI w B0 x P (.slice a P.length cap) F (wx.setCell ⟨p.b, p.off + 4, Option.none⟩ (.slice Option.none 0 0)) := by
  have hp := h.pend p (by simp)
  obtain ⟨g1, g2, ⟨cur, g3, g4⟩, A, c, g5, g6⟩ := hp
  have hs := set_same g3 g4 (.slice Option.none 0 0)
  have ho := set_other g3 (o := p.off + 4) (.slice Option.none 0 0)
  have hown := h.own
  rw [List.map_append, List.length_append] at hown
  have hpop := own_pop (xs := P.map Pend.ptr) (y := p.ptr) hown
  have hob : ∀ g, (Value.slice a P.length cap).ownBlock = some g → (Value.slice a (P.length + 1) cap).ownBlock = some g := by intro g hg; cases a <;> exact hg
  refine h.step g5 g6 ⟨fun b o _ hne => ho b o hne⟩ (set_blks (fun _ _ => rfl) _) (c1 := 0) (A1 := Option.none) (by rw [hs, h0]; rfl) (by rw [h0]; exact nil_any _ _) (fun _ h => h)
    ((Below.refl _ _).setCell g2 _) (fun b hb => by simp [World.setCell]; exact h.flt b hb) h.fin (fun _ _ h => h) ?_ ?_ (fun g hg => ⟨hob g hg, (hpop.lt g hg).2⟩)
  · refine Below.heap_setCell wx ⟨p.b, p.off + 4, Option.none⟩ _ _ (fun e => h.nores ?_)
    rw [e]; exact g1
  · refine own_kept hpop (fun g hg => Below.heap_setCell wx ⟨p.b, p.off + 4, Option.none⟩ _ _ (fun e => h.nown g (hob g hg) ?_))
    rw [e]; exact g1

/-- The last place's items are cloned. -/
theorem CpI.cloned {w : World} {B0 : Nat} {x : V} {P : List Pend} {p : Pend} {a : Option Addr} {cap : Nat} {F : Nat → Prop} {wx w2 : World} (h : CpI w B0 x (P ++ [p]) (.slice a (P.length + 1) cap) F wx) (h0 : p.l ≠ [])
    {A A' : Option Addr} {c c' : Nat} (hp : wx.cell? ⟨p.b, p.off + 4, Option.none⟩ = some (.slice A p.l.length c)) (hc : Cloned p.l A wx (.returned (.slice A' p.l.length c')) w2) :
    ∃ b', A' = some ⟨b', 0, Option.none⟩ ∧ wx.heap.size ≤ b' ∧ CpI w B0 x P (.slice a P.length cap) (fun k => F k ∨ k = b') (w2.setCell ⟨p.b, p.off + 4, Option.none⟩ (.slice A' p.l.length c')) ∧
      (w2.setCell ⟨p.b, p.off + 4, Option.none⟩ (.slice A' p.l.length c')).cell? ⟨p.b, p.off + 4, Option.none⟩ = some (.slice A' p.l.length c') ∧
      ∀ j (hj : j < p.l.length), PendOk w.heap.size (fun k => F k ∨ k = b') (w2.setCell ⟨p.b, p.off + 4, Option.none⟩ (.slice A' p.l.length c')) ⟨b', j * 5, items p.l[j]⟩ := by
  have hpp := h.pend p (by simp)
  obtain ⟨g1, g2, ⟨cur, g3, g4⟩, A0, c0, g5, g6⟩ := hpp
  rw [hp] at g5
  have e5 := Option.some.inj g5
  rw [← e5] at g6
  clear g5 e5
  obtain ⟨A1, c1, e, k1, k2, k3⟩ := hc
  injection e with e
  simp only [Value.slice.injEq, true_and] at e
  obtain ⟨rfl, rfl⟩ := e
  rcases k3 with k3 | ⟨b, off, b', cur', rfl, rfl, q1, q2, q3, q4⟩
  · exact absurd k3 h0
  have hk : ∀ b, F b → w2.heap[b]? = wx.heap[b]? := fun b hb => k2.block b (h.flt b hb)
  have g3' : w2.heap[p.b]? = some (.cells cur 53 (0, 0)) := (hk _ g1).trans g3
  have hne : b' ≠ p.b := fun e => by have := h.flt _ g1; omega
  have hs := set_same g3' g4 (.slice (some ⟨b', 0, Option.none⟩) p.l.length c')
  have ho := set_other g3' (o := p.off + 4) (.slice (some ⟨b', 0, Option.none⟩) p.l.length c')
  have hU : Upd wx (w2.setCell ⟨p.b, p.off + 4, Option.none⟩ (.slice (some ⟨b', 0, Option.none⟩) p.l.length c')) F p.b (p.off + 4) :=
    ⟨fun b o hb hn => (ho b o hn).trans (World.cell?_of_block (w := wx) (a := ⟨b, o, Option.none⟩) (hk b hb))⟩
  obtain ⟨A2, c2, e2, s1, s2, s3⟩ := g6
  simp only [Value.slice.injEq, true_and] at e2
  obtain ⟨e2, rfl⟩ := e2
  have hrow : RowF wx F p.l b off := by
    rcases s3 with s3 | ⟨b1, o1, e3, s3⟩
    · exact absurd s3 h0
    · rw [← e2] at e3
      simp only [Option.some.injEq, Addr.mk.injEq, and_true] at e3
      obtain ⟨rfl, rfl⟩ := e3
      exact s3
  subst e2
  have g6 : SlF wx F p.l (.slice (some ⟨b, off, Option.none⟩) p.l.length c) := ⟨_, c, rfl, s1, s2, .inr ⟨b, off, rfl, hrow⟩⟩
  have hrow' : RowF (w2.setCell ⟨p.b, p.off + 4, Option.none⟩ (.slice (some ⟨b', 0, Option.none⟩) p.l.length c')) (fun k => F k ∨ k = b') p.l b' 0 :=
    RowF.copied hU hp g6 (fun _ h => h) (fun _ h => .inl h) (.inr rfl) p.l b off 0 hrow (Nat.le_refl _) (fun q hq => by
      rw [Nat.zero_add, ho b' q (fun e => hne e.1)]
      exact q4 q hq)
  have hm' : SlF (w2.setCell ⟨p.b, p.off + 4, Option.none⟩ (.slice (some ⟨b', 0, Option.none⟩) p.l.length c')) (fun k => F k ∨ k = b') p.l (.slice (some ⟨b', 0, Option.none⟩) p.l.length c') := ⟨_, c', rfl, s1, k1, .inr ⟨b', 0, rfl, hrow'⟩⟩
  have hown := h.own
  rw [List.map_append, List.length_append] at hown
  have hpop := own_pop (xs := P.map Pend.ptr) (y := p.ptr) hown
  have hob : ∀ g, (Value.slice a P.length cap).ownBlock = some g → (Value.slice a (P.length + 1) cap).ownBlock = some g := by intro g hg; cases a <;> exact hg
  have hwn : w.heap.size ≤ wx.heap.size := h.bel.size
  refine ⟨b', rfl, q1, ?_, hs, fun j hj => ?_⟩
  · refine h.step hp g6 hU (set_blks hk _) hs hm' (fun _ h => .inl h) ((k2.mono hwn).setCell g2 _) (fun k hk => ?_) (fun k hk => by rcases hk with hk | hk; exact h.fin k hk; subst hk; exact .inr (by omega)) (fun k hk hk2 => ?_) ?_ ?_ (fun g hg => ⟨hob g hg, (hpop.lt g hg).2⟩)
    · simp only [World.setCell, Array.size_modify]
      rcases hk with hk | hk
      · have := h.flt k hk; have := k2.size; omega
      · subst hk; exact lt_of_blkC q2
    · rcases hk2 with hk2 | hk2
      · exact hk2
      · omega
    · rw [Below.heap_setCell w2 ⟨p.b, p.off + 4, Option.none⟩ _ _ (fun e => h.nores (by rw [e]; exact g1))]
      exact k2.block _ (lt_of_blkC h.res)
    · refine own_kept hpop (fun g hg => ?_)
      rw [Below.heap_setCell w2 ⟨p.b, p.off + 4, Option.none⟩ _ g (fun e => h.nown g (hob g hg) (by rw [show g = p.b from e]; exact g1))]
      exact k2.block _ (hpop.lt g hg).2
  · have hci := row_item p.l b' 0 j hrow' hj
    rw [Nat.zero_add] at hci
    refine ⟨.inr rfl, by show _ ≤ b'; omega, ⟨cur', (Below.heap_setCell w2 ⟨p.b, p.off + 4, Option.none⟩ _ _ hne).trans q2, by show j * 5 + 4 < _; omega⟩, items_at hci⟩
/-- A place is put to the end. -/
theorem CpI.push {w : World} {B0 : Nat} {x : V} {P : List Pend} {p : Pend} {tv tv' : Value} {F : Nat → Prop} {wx wy : World} (h : CpI w B0 x P tv F wx) (hp : PendOk w.heap.size F wx p) (hk : ∀ b, b < wx.heap.size → tv.ownBlock ≠ some b → wy.heap[b]? = wx.heap[b]?)
    (hbel : Below w.heap.size wx wy) (hown : wy.ownsRow (w.heap.size + 2) 144 1 tv' (P.length + 1) (P.map Pend.ptr ++ [p.ptr])) (hnew : ∀ g, tv'.ownBlock = some g → tv.ownBlock = some g ∨ wx.heap.size ≤ g) :
    CpI w B0 x (P ++ [p]) tv' F wy := by
  have hF : ∀ b, F b → wy.heap[b]? = wx.heap[b]? := fun b hb => hk b (h.flt b hb) (fun e => h.nown b e hb)
  refine ⟨h.bel.trans (hbel.mono (Nat.le_refl _)), fun b hb => Nat.lt_of_lt_of_le (h.flt b hb) hbel.size, h.fin, CellsF.keep hF (fun _ h => h) x _ _ h.box, ?_, h.nores, ?_, fun g hg e => ?_, fun q hq => ?_⟩
  · rw [hk _ (lt_of_blkC h.res) (fun e => by have := (h.own.lt _ e).1; omega)]
    exact h.res
  · rw [List.map_append, List.length_append]
    exact hown
  · rcases hnew g hg with h1 | h1
    · exact h.nown g h1 e
    · have := h.flt g e; omega
  · rcases List.mem_append.1 hq with hq | hq
    · exact (h.pend q hq).keep hF (fun _ h => h)
    · rw [List.mem_singleton] at hq
      subst hq
      exact hp.keep hF (fun _ h => h)
end Go.Proofs.YtfpiannnggkdiaaDoor
namespace Go.Proofs.YtfpiannnggkdiaaDoor
open Go.RowKit

theorem own_rebase {w : World} {b1 b2 n size : Nat} {e : TypeId} {v : Value} {xs : List Value} (h : w.ownsRow b1 e size v n xs) (hb : ∀ g, v.ownBlock = some g → b2 ≤ g) : w.ownsRow b2 e size v n xs := by
  refine ⟨h.1, ?_⟩
  rcases h.2 with h0 | ⟨g, cap, cur, e1, hg, hc, r⟩
  · exact .inl h0
  · exact .inr ⟨g, cap, cur, e1, hb g (by rw [e1]; rfl), hc, r⟩
theorem append_exactS {P : Program} (w : World) (t ty e : TypeId) (i : TypeInfo) (z : Value) (size bytes : Nat) (ht : P.underlying t = some (.slice e)) (hi : P.info? e = some i) (hz : i.zero = some z)
    (hsize : i.size = size) (hby : i.bytes = bytes) (hzs : z.cells.size = size) (hsz : 0 < size) (v : Value) (n : Nat) (xs : List Value) (hown : w.ownsRow 0 e size v n xs)
    (a : Addr) (m c : Nat) (news : List Value) (hl : news.length = m * size) (hnews : ∀ j u, news[j]? = some u → w.cell? (a.add j) = some u) (h1 : ∀ u ∈ news, u.oneCell' = true)
    (h63 : n + m ≤ maxLen) (hbytes : (n + m) * bytes ≤ 140737488355328) :
    ∃ v' w', (Builtin.append_ #[t, t] ty #[v, .slice (some a) m c]).run P w = .ok v' w' ∧ w'.ownsRow 0 e size v' (n + m) (xs ++ news) ∧ w.grownBy w' v.ownBlock ∧
      ∀ k, v'.ownBlock = some k → v.ownBlock = some k ∨ w.heap.size ≤ k := by
  have hx := hown.1
  rcases hown.2 with ⟨rfl, rfl⟩ | ⟨g, cap, cur, rfl, _, hg, hnc, hcm, hcs, htake⟩
  · obtain ⟨v', w', hr, h2, h3, _⟩ := run_append_own (P := P) w w.heap.size t ty e i z size bytes ht hi hz hsize hby hzs hsz (.slice none 0 0) 0 xs ⟨hx, .inl ⟨rfl, rfl⟩⟩ a m c news hl hnews h1 h63 hbytes (Nat.le_refl _)
    exact ⟨v', w', hr, own_rebase h2 (fun _ _ => Nat.zero_le _), h3, fun k hk => .inr (h2.lt k hk).1⟩
  · obtain ⟨v', w', hr, h2, h3, _⟩ := run_append_own (P := P) w 0 t ty e i z size bytes ht hi hz hsize hby hzs hsz _ n xs hown a m c news hl hnews h1 h63 hbytes (Nat.zero_le _)
    refine ⟨v', w', hr, h2, h3, ?_⟩
    subst hsize
    subst hby
    by_cases hroom : n + m ≤ cap
    · have hfit : n * i.size + news.length ≤ cur.size := by rw [hl, hcs, ← Nat.add_mul]; exact Nat.mul_le_mul_right _ hroom
      have hr2 := run_append_room (P := P) w t ty e i ht hi g n cap cur hg a m c news hl hnews h1 hroom hfit
      rw [hr2] at hr
      cases hr
      intro k hk
      exact .inl hk
    · have hr2 := run_append_grow (P := P) w t ty e i z ht hi hz ⟨g, 0, none⟩ n cap xs hx (fun j u hj => hown.cells (g := g) rfl j u hj) a m c news hl hnews (by omega) (by simp only [maxLen] at h63; omega) (growslice_fits (by omega) hbytes)
      rw [hr2] at hr
      cases hr
      intro k hk
      simp only [Value.ownBlock, Option.some.injEq] at hk
      exact .inr (by omega)

theorem wpList_append_exactS {P : Program} (w : World) {ops : Array Oper} {rest : List Oper} {o : Oper} {a : Act} {Q : Exit → Act → World → Prop} (hgd : o.guard = none) (s x : Operand) (t : TypeId)
    (ho : o.op = .call { callee := .builtin .append, args := #[s, x], argTypes := #[t, t] })
    (e : TypeId) (i : TypeInfo) (z : Value) (size bytes : Nat) (ht : P.underlying t = some (.slice e)) (hi : P.info? e = some i) (hz : i.zero = some z)
    (hsize : i.size = size) (hby : i.bytes = bytes) (hzs : z.cells.size = size) (hsz : 0 < size) (v : Value) (n : Nat) (xs : List Value) (hs : a.eval s = v) (hown : w.ownsRow 0 e size v n xs)
    (ad : Addr) (m c : Nat) (news : List Value) (hx : a.eval x = .slice (some ad) m c) (hl : news.length = m * size) (hnews : ∀ j u, news[j]? = some u → w.cell? (ad.add j) = some u) (h1 : ∀ u ∈ news, u.oneCell' = true)
    (h63 : n + m ≤ maxLen) (hbytes : (n + m) * bytes ≤ 140737488355328)
    (h : ∀ v' w', w'.ownsRow 0 e size v' (n + m) (xs ++ news) → w.grownBy w' v.ownBlock → (∀ k, v'.ownBlock = some k → v.ownBlock = some k ∨ w.heap.size ≤ k) → wpList P ops Q rest (a.put o.dst v') w') : wpList P ops Q (o :: rest) a w := by
  refine wpList_plain hgd fun K hK => ?_
  obtain ⟨v', w', hr, h2, h3, h4⟩ := append_exactS (P := P) w t o.type e i z size bytes ht hi hz hsize hby hzs hsz v n xs hown ad m c news hl hnews h1 h63 hbytes
  unfold Oper.wp execOp
  simp only [ho, resolve, invoke, builtin, Sem.run_bind, Sem.run_pure, Result.andThen_ok, List.map_toArray, List.map_cons, List.map_nil, hs, hx, hr]
  exact hK _ _ (h v' w' h2 h3 h4)

/-- The clone's items are put to the end, one by one. -/
structure InI (w : World) (B0 : Nat) (x : V) (P : List Pend) (pb po : Nat) (pl : List V) (b' c' : Nat) (F : Nat → Prop) (j : Nat) (tv : Value) (wx : World) : Prop where
  cp : CpI w B0 x (P ++ kids b' pl j) tv F wx
  cell : wx.cell? ⟨pb, po + 4, none⟩ = some (.slice (some ⟨b', 0, none⟩) pl.length c')
  kid : ∀ j (hj : j < pl.length), PendOk w.heap.size F wx ⟨b', j * 5, items pl[j]⟩
  inF : F pb
theorem kids_len {b : Nat} {l : List V} {j : Nat} (h : j ≤ l.length) : (kids b l j).length = j := by unfold kids; rw [kidsF_len, List.length_take]; omega
theorem InI.next {w : World} {B0 : Nat} {x : V} {P : List Pend} {pb po : Nat} {pl : List V} {b' c' : Nat} {F : Nat → Prop} {j : Nat} {tv tv' : Value} {wx wy : World} (h : InI w B0 x P pb po pl b' c' F j tv wx) (hj : j < pl.length)
    (hk : ∀ b, b < wx.heap.size → tv.ownBlock ≠ some b → wy.heap[b]? = wx.heap[b]?) (hbel : Below w.heap.size wx wy)
    (hown : wy.ownsRow (w.heap.size + 2) 144 1 tv' ((P ++ kids b' pl j).length + 1) ((P ++ kids b' pl j).map Pend.ptr ++ [.pointer (some ⟨b', j * 5, none⟩)])) (hnew : ∀ g, tv'.ownBlock = some g → tv.ownBlock = some g ∨ wx.heap.size ≤ g) :
    InI w B0 x P pb po pl b' c' F (j + 1) tv' wy := by
  have hF : ∀ b, F b → wy.heap[b]? = wx.heap[b]? := fun b hb => hk b (h.cp.flt b hb) (fun e => h.cp.nown b e hb)
  refine ⟨?_, (World.cell?_of_block (w := wx) (a := ⟨pb, po + 4, none⟩) (hF _ h.inF)).trans h.cell, fun i hi => (h.kid i hi).keep hF (fun _ h => h), h.inF⟩
  rw [kids_next hj, ← List.append_assoc]
  exact h.cp.push (h.kid j hj) hk hbel hown hnew
theorem infoP : (Tryd.prog.info? 144).map (fun i => (i.zero, i.size, i.bytes)) = some (some (.pointer none), 1, 8) := by kernel_rfl
theorem cpi_start {k i t : Int} {s : ByteArray} {l : List V} {A : Option Addr} {c B0 : Nat} {w : World} (hB : B0 ≤ w.heap.size) (hz : s.size ≤ 1048576) (hl : SlAt w B0 l (.slice A l.length c)) :
    CpI w B0 (.mk k i t s l) [⟨w.heap.size, 0, l⟩] (.slice (some ⟨w.heap.size + 2, 0, none⟩) 1 1) (fun b => b < B0 ∨ b = w.heap.size)
      (((w.alloc (.cells #[.int .i64 k, .int .i64 i, .int .i64 t, .string s, .slice A l.length c] 53)).alloc resBox).alloc (.cells #[.pointer (some ⟨w.heap.size, 0, none⟩)] 144)) := by
  obtain ⟨W, hW⟩ : ∃ W, W = (((w.alloc (.cells #[.int .i64 k, .int .i64 i, .int .i64 t, .string s, .slice A l.length c] 53)).alloc resBox).alloc (.cells #[.pointer (some ⟨w.heap.size, 0, none⟩)] 144)) := ⟨_, rfl⟩
  have hb : Below w.heap.size w W := by rw [hW]; exact (((Below.refl _ w).alloc (Nat.le_refl _) _).alloc (by simp) _).alloc (by simp; omega) _
  have hsz : W.heap.size = w.heap.size + 3 := by rw [hW]; simp
  have b0 : W.heap[w.heap.size]? = some (.cells #[.int .i64 k, .int .i64 i, .int .i64 t, .string s, .slice A l.length c] 53 (0, 0)) := by
    rw [hW, Below.heap_alloc _ _ _ (by simp; omega), Below.heap_alloc _ _ _ (by simp)]
    exact heap_alloc_new w _
  have b1 : W.heap[w.heap.size + 1]? = some resBox := by
    rw [hW, Below.heap_alloc _ _ _ (by simp)]
    have := heap_alloc_new (w.alloc (.cells #[.int .i64 k, .int .i64 i, .int .i64 t, .string s, .slice A l.length c] 53)) resBox
    simpa using this
  have b2 : W.heap[w.heap.size + 2]? = some (.cells #[.pointer (some ⟨w.heap.size, 0, none⟩)] 144 (0, 0)) := by
    have := heap_alloc_new ((w.alloc (.cells #[.int .i64 k, .int .i64 i, .int .i64 t, .string s, .slice A l.length c] 53)).alloc resBox) (.cells #[.pointer (some ⟨w.heap.size, 0, none⟩)] 144)
    rw [hW]
    simpa using this
  rw [← hW]
  have hsl : SlF W (fun b => b < B0 ∨ b = w.heap.size) l (.slice A l.length c) := (hl.below hb hB).toF (fun b hb => .inl hb)
  have c4 := cell_of_row W w.heap.size 4 _ _ (0, 0) b0
  refine ⟨hb, fun b hb => by rcases hb with hb | hb <;> omega, fun b hb => by rcases hb with hb | hb; exact .inl hb; exact .inr (by omega), ?_, b1, by intro hb; rcases hb with hb | hb <;> omega, ⟨rfl, .inr ⟨w.heap.size + 2, 1, _, rfl, Nat.le_refl _, b2, Nat.le_refl _, by unfold maxLen; omega, rfl, rfl⟩⟩, ?_, ?_⟩
  · unfold CellsF
    obtain ⟨A', c', e, h1, h2, h3⟩ := hsl
    simp only [Value.slice.injEq, true_and] at e
    obtain ⟨rfl, rfl⟩ := e
    exact ⟨.inr rfl, cell_of_row W w.heap.size 0 _ _ (0, 0) b0, cell_of_row W w.heap.size 1 _ _ (0, 0) b0, cell_of_row W w.heap.size 2 _ _ (0, 0) b0, cell_of_row W w.heap.size 3 _ _ (0, 0) b0, hz, A, c, c4, h1, h2, h3⟩
  · intro g hg
    simp only [Value.ownBlock, Option.some.injEq] at hg
    intro hb
    rcases hb with hb | hb <;> omega
  · intro p hp
    rw [List.mem_singleton] at hp
    subst hp
    exact ⟨.inr rfl, Nat.le_refl _, ⟨_, b0, by simp⟩, A, c, c4, hsl⟩

set_option maxRecDepth 100000 in
set_option maxHeartbeats 8000000 in
theorem copyOf_any (k i t : Int) (s : ByteArray) (l : List V) (A : Option Addr) (c B0 : Nat) (w : World) (hB : B0 ≤ w.heap.size) (hz : s.size ≤ 1048576) (hl : SlAt w B0 l (.slice A l.length c)) (hN : nodesL l ≤ 1048576) :
    Calls Tryd.prog 61 #[.agg #[.int .i64 k, .int .i64 i, .int .i64 t, .string s, .slice A l.length c]] w fun e w' =>
      ∃ A' c', e = .returned (.agg #[.int .i64 k, .int .i64 i, .int .i64 t, .string s, .slice A' l.length c']) ∧ SlF w' (fun b => (b < B0 ∨ w.heap.size ≤ b) ∧ b < w'.heap.size) l (.slice A' l.length c') ∧ Below w.heap.size w w' := by
  have HS := Lib.hid (cpi_start (k := k) (i := i) (t := t) hB hz hl)
  unfold resBox at HS
  obtain ⟨n, hn⟩ : ∃ n, n = l.length := ⟨_, rfl⟩
  have HN := Lib.hid hn
  rw [← hn] at HS
  rw [show (Value.slice A l.length c) = Value.slice A n c by rw [hn]]
  obtain ⟨i0, hi, hz0, hz1, hz2⟩ := info_parts infoP
  clear hl hn hB
  go_enter Tryd.func61, Tryd.ntmps61
  go_wp2_with fail
  go_loopg [3] (1 + nodesL l) (fun kx s3 wr => ∃ (P : List Pend) (F : Nat → Prop) (a : Option Addr) (m cap : Nat), s3 = .slice a m cap ∧ m = P.length ∧ left P ≤ kx ∧ left P ≤ 1 + nodesL l ∧ Hid (CpI w B0 (.mk k i t s l) P (.slice a m cap) F wr))
  case atStart => exact ⟨[⟨w.heap.size, 0, l⟩], _, _, _, _, rfl, rfl, by simp [left], by simp [left], HS⟩
  case round =>
    obtain ⟨P, F, a, m, cap, rfl, hm, hle, hlb, HR⟩ := hrel
    by_cases hm0 : m = 0
    · subst hm0
      have hP : P = [] := List.eq_nil_of_length_eq_zero hm.symm
      subst hP
      have hbx := HR.out.box
      unfold CellsF at hbx
      obtain ⟨h0, h1, h2, h3, h4, hz', A', c', h5, h6, h7, h8⟩ := hbx
      have hres := HR.out.res
      unfold resBox at hres
      have r0 := cell_of_row wr (w.heap.size + 1) 0 _ _ (0, 0) hres
      have r1 := cell_of_row wr (w.heap.size + 1) 1 _ _ (0, 0) hres
      have r2 := cell_of_row wr (w.heap.size + 1) 2 _ _ (0, 0) hres
      have r3 := cell_of_row wr (w.heap.size + 1) 3 _ _ (0, 0) hres
      have r4 := cell_of_row wr (w.heap.size + 1) 4 _ _ (0, 0) hres
      have f0 := frozen_of_row wr (w.heap.size + 1) 0 _ _ hres
      have f1 := frozen_of_row wr (w.heap.size + 1) 1 _ _ hres
      have f2 := frozen_of_row wr (w.heap.size + 1) 2 _ _ hres
      have f3 := frozen_of_row wr (w.heap.size + 1) 3 _ _ hres
      have f4 := frozen_of_row wr (w.heap.size + 1) 4 _ _ hres
      have HX : Hid (∀ wf : World, (∀ b, b ≠ w.heap.size + 1 → wf.heap[b]? = wr.heap[b]?) → wf.heap.size = wr.heap.size → SlF wf (fun b => (b < B0 ∨ w.heap.size ≤ b) ∧ b < wf.heap.size) l (.slice A' n c')) := Lib.hid (fun wf hk hs => by
        have hsl : SlF wr F l (.slice A' n c') := ⟨A', c', by rw [HN.out], h6, h7, h8⟩
        exact hsl.keep (w' := wf) (fun b hb => hk b (fun e => HR.out.nores (by rw [← e]; exact hb))) (fun b hb => ⟨HR.out.fin b hb, by rw [hs]; exact HR.out.flt b hb⟩))
      have HB := Lib.hid HR.out.bel
      clear h8 hres hm hle hlb hz' h0 h6 h7
      rw [← HN.out] at h5
      go_wp2_with fail
      refine bodyPost_ret (v := .agg #[.int .i64 k, .int .i64 i, .int .i64 t, .string s, .slice A' n c']) ?_ rfl ?_
      · simp [results, Tryd.f61]
        go_simp
      · refine ⟨A', c', by rw [HN.out], ?_, ?_⟩
        · rw [← HN.out]
          exact HX.out _ (fun b hb => by simp [World.setCell, Array.getElem?_modify, Ne.symm hb]) (by simp [World.setCell])
        · exact ((((HB.out.setCell (Nat.le_succ _) _).setCell (Nat.le_succ _) _).setCell (Nat.le_succ _) _).setCell (Nat.le_succ _) _).setCell (Nat.le_succ _) _
    · obtain ⟨P', p, hP⟩ : ∃ P' p, P = P' ++ [p] := by
        rcases List.eq_nil_or_concat P with h | ⟨P', p, h⟩
        · rw [h] at hm; exact absurd hm hm0
        · exact ⟨P', p, by rw [h]; simp⟩
      subst hP
      obtain ⟨q, hq⟩ : ∃ q, q = P'.length := ⟨_, rfl⟩
      have hmq : m = q + 1 := by rw [hm, hq]; simp
      subst hmq
      rw [left_app] at hle hlb
      simp only [left] at hle hlb
      have hown := HR.out.own
      obtain ⟨g, rfl, hcell⟩ : ∃ g, a = some ⟨g, 0, none⟩ ∧ wr.cell? ⟨g, q, none⟩ = some p.ptr := by
        have hown' := hown
        rw [← hm] at hown'
        rcases hown'.2 with ⟨e, h0⟩ | ⟨g, cap', cur, e, _⟩
        · simp at h0
        · simp only [Value.slice.injEq] at e
          obtain ⟨rfl, _, _⟩ := e
          refine ⟨g, rfl, ?_⟩
          have := hown'.cellAt q (by omega)
          rw [this, List.map_append, List.getElem?_append_right (by simp; omega)]
          simp [hq]
      obtain ⟨pb, po, pl⟩ := p
      obtain ⟨h1, h2, ⟨cur, h3, h4⟩, Ap, cp, h5, h6⟩ := HR.out.pend ⟨pb, po, pl⟩ (by simp)
      simp only [Pend.ptr] at hcell h1 h2 h3 h4 h5 h6 hle hlb
      have f5 := frozen_of_row wr pb (po + 4) _ _ h3
      have p1 : (0 : Int) < (q : Int) + 1 := by omega
      have p2 : ((q + 1 : Nat) : Int) - 1 = q := by omega
      have p3 : ((q : Int) + 1) - 1 = q := by omega
      have p4 : q < q + 1 := by omega
      have p5 : (q : Int) < (q : Int) + 1 := by omega
      have hcapq : q + 1 ≤ cap := by
        rcases hown.2 with ⟨e, h0⟩ | ⟨g, cap', cur, e, _, _, h7, _⟩
        · simp at h0
        · simp only [Value.slice.injEq] at e
          obtain ⟨_, _, rfl⟩ := e
          have : (P' ++ [(⟨pb, po, pl⟩ : Pend)]).length = q + 1 := by simp [hq]
          omega
      have hqs : q ≤ 4000000 := by have := left_len P'; omega
      have HQ := Lib.hid hq
      by_cases h0 : pl = []
      · subst h0
        have HD : Hid (CpI w B0 (.mk k i t s l) P' (.slice (some ⟨g, 0, none⟩) q cap) F (wr.setCell ⟨pb, po + 4, none⟩ (.slice none 0 0))) := Lib.hid (by
          have hh := HR.out
          rw [hq] at hh ⊢
          exact hh.drained rfl)
        have hlp : left P' < gk := by simp only [nodesL] at hle; omega
        have hlt : left P' ≤ 1 + nodesL l := by omega
        clear h6 hown hq hm hle hlb
        go_wp2_with fail
        go_roundg (left P')
        case measure => exact hlp
        case rel => exact ⟨P', F, _, _, _, rfl, HQ.out, Nat.le_refl _, hlt, HD⟩
      · have hpos : 0 < pl.length := by cases pl; exact absurd rfl h0; simp
        have HCL := Lib.hid (valClone_any pl Ap cp wr (h6.toAt HR.out.flt) hpos)
        have HST : Hid (∀ w2 A' c', Cloned pl Ap wr (.returned (.slice A' pl.length c')) w2 → ∃ b', A' = some ⟨b', 0, none⟩ ∧ InI w B0 (.mk k i t s l) P' pb po pl b' c' (fun k => F k ∨ k = b') 0 (.slice (some ⟨g, 0, none⟩) q cap) (w2.setCell ⟨pb, po + 4, none⟩ (.slice A' pl.length c'))) := Lib.hid (fun w2 A' c' hc => by
          have hh := HR.out
          rw [hq] at hh ⊢
          obtain ⟨b', e, _, k1, k2, k3⟩ := hh.cloned h0 h5 hc
          refine ⟨b', e, ?_, ?_, k3, .inl h1⟩
          · have : kids b' pl 0 = [] := by unfold kids; rw [List.take_zero]; rfl
            rw [this, List.append_nil]
            exact k1
          · rw [k2, e])
        have hlen : pl.length ≤ 1048576 := by obtain ⟨_, _, _, h, _⟩ := h6; exact h
        have hall : ∀ b', left (P' ++ kids b' pl pl.length) < gk := fun b' => by rw [left_app, kids_all]; omega
        have hall2 : ∀ b', left (P' ++ kids b' pl pl.length) ≤ 1 + nodesL l := fun b' => by rw [left_app, kids_all]; omega
        obtain ⟨n2, hn2⟩ : ∃ n2, n2 = pl.length := ⟨_, rfl⟩
        have HN2 := Lib.hid hn2
        rw [← hn2] at hpos HCL HST hlen hall hall2 h5
        have HALL := Lib.hid (And.intro hall hall2)
        have p6 : ((n2 : Int) == 0) = false := by simp; omega
        clear h6 hown hq hm hle hlb hn2 hall hall2 h0
        go_wp2_with fail
        refine HCL.out.mono ?_
        rintro e2 w2 hc
        have hc' := hc
        obtain ⟨A', c', rfl, hcn, hb2, -⟩ := hc'
        rw [← HN2.out] at hc ⊢
        have h5' := (hb2.cell (p := ⟨pb, po + 4, none⟩) (HR.out.flt _ h1)).trans h5
        have f5' := (hb2.frozen (p := ⟨pb, po + 4, none⟩) (HR.out.flt _ h1)).trans f5
        obtain ⟨b', rfl, hin⟩ := HST.out w2 _ _ hc
        have HIN := Lib.hid hin
        clear hc hb2 hin HST HCL
        go_wp2_with fail
        go_loopw [3, 43] (fun tv iv wx => ∃ (j : Nat) (a1 : Option Addr) (cap1 : Nat), iv = .int .i64 j ∧ tv = .slice a1 (q + j) cap1 ∧ j ≤ n2 ∧ Hid (InI w B0 (.mk k i t s l) P' pb po pl b' c' (fun k => F k ∨ k = b') j (.slice a1 (q + j) cap1) wx)) (fun _ iv _ => n2 - (intOf iv).toNat)
        case atStart => exact ⟨0, _, _, rfl, rfl, Nat.zero_le _, HIN⟩
        case round =>
          obtain ⟨j, a1, cap1, rfl, rfl, hj2, HI⟩ := hrel
          have z5 := HI.out.cell
          rw [← HN2.out] at z5
          by_cases hj : j < n2
          · have hjl : j < pl.length := by rw [← HN2.out]; exact hj
            have y2 : (j : Int) < n2 := by omega
            have hown := HI.out.cp.own
            have hkl := kids_len (b := b') (Nat.le_of_lt hjl)
            have hPl : (P' ++ kids b' pl j).length = q + j := by rw [List.length_append, hkl, HQ.out]
            rw [hPl] at hown
            have hown0 := own_rebase hown (b2 := 0) (fun _ _ => Nat.zero_le _)
            generalize hxs : (P' ++ kids b' pl j).map Pend.ptr = xs at hown hown0
            have hown1 : (wr.alloc (.cells #[.pointer (some ⟨b', j * 5, none⟩)] 144)).ownsRow 0 144 1 (.slice a1 (q + j) cap1) (q + j) xs := hown0.alloc _
            have HOWN := Lib.hid hown1
            have HNX : Hid (∀ (v' : Value) (w4 : World), w4.ownsRow 0 144 1 v' (q + j + 1) (xs ++ [.pointer (some ⟨b', j * 5, none⟩)]) → (wr.alloc (.cells #[.pointer (some ⟨b', j * 5, none⟩)] 144)).grownBy w4 (Value.slice a1 (q + j) cap1).ownBlock → (∀ k, v'.ownBlock = some k → (Value.slice a1 (q + j) cap1).ownBlock = some k ∨ wr.heap.size + 1 ≤ k) →
                InI w B0 (.mk k i t s l) P' pb po pl b' c' (fun k => F k ∨ k = b') (j + 1) v' w4) := Lib.hid (fun v' w4 ho hg hx => by
              have hlt : ∀ g, (Value.slice a1 (q + j) cap1).ownBlock = some g → w.heap.size + 2 ≤ g ∧ g < wr.heap.size := fun g hg => hown.lt g hg
              have hsz : w.heap.size ≤ wr.heap.size := HI.out.cp.bel.size
              refine HI.out.next hjl (fun b hb hne => ?_) ?_ ?_ (fun g hg2 => ?_)
              · rw [hg.block b (by simp; omega) (fun e => hne e.symm)]
                exact Below.heap_alloc _ _ _ hb
              · exact ((Below.refl _ wr).alloc (Nat.le_refl _) _ |>.mono hsz).grown hg (by simp; omega) (fun k hk => by have := (hlt k hk).1; omega)
              · rw [hPl, hxs]
                refine own_rebase ho (fun g hg2 => ?_)
                rcases hx g hg2 with h | h
                · exact (hlt g h).1
                · have := lt_of_blkC HI.out.cp.res; omega
              · rcases hx g hg2 with h | h
                · exact .inl h
                · exact .inr (by omega))
            have hnews : ∀ q u, [(Value.pointer (some ⟨b', j * 5, none⟩))][q]? = some u → (wr.alloc (.cells #[.pointer (some ⟨b', j * 5, none⟩)] 144)).cell? ((⟨wr.heap.size, 0, none⟩ : Addr).add q) = some u := by
              intro q u hq
              have h := heap_alloc_new wr (.cells #[.pointer (some ⟨b', j * 5, none⟩)] 144)
              match q, hq with
              | 0, hq =>
                simp at hq
                rw [← hq]
                exact cell_of_row _ _ 0 _ _ (0, 0) h
              | q + 1, hq => simp at hq
            have HNEWS := Lib.hid hnews
            clear hown hown0 hown1 hnews hxs hPl hkl
            go_wp2_with (at_builtin; refine wpList_append_exactS _ rfl _ _ 145 rfl 144 i0 _ 1 8 Tryd.underlying145 hi hz0 hz1 hz2 rfl (by omega) _ _ _ rfl HOWN.out ⟨wr.heap.size, 0, none⟩ 1 1 [.pointer (some ⟨b', j * 5, none⟩)] rfl rfl HNEWS.out (by simp [Value.oneCell']) (by unfold maxLen; omega) (by omega) ?_)
            intro v' w4 hown4 hgrow4 hex4
            have hn4 := HNX.out v' w4 hown4 hgrow4 hex4
            obtain ⟨a2, cap2, rfl⟩ : ∃ a2 cap2, v' = .slice a2 (q + j + 1) cap2 := by
              rcases hown4.2 with ⟨hv, h⟩ | ⟨g, cap, cur, hv, _⟩
              · omega
              · exact ⟨_, _, hv⟩
            have HN4 := Lib.hid hn4
            clear hown4 hgrow4 hex4 hn4 HNX
            go_wp2_with fail
            go_roundw
            case rel => exact ⟨j + 1, a2, cap2, by go_num, by rw [Nat.add_assoc], hj, by rw [← Nat.add_assoc]; exact HN4⟩
            case measure => simp [intOf]; omega
          · obtain rfl : j = n2 := by omega
            have y2 : ¬ (j : Int) < j := by omega
            clear z5
            go_wp2_with fail
            go_roundg (left (P' ++ kids b' pl j))
            case measure => exact HALL.out.1 b'
            case rel => exact ⟨P' ++ kids b' pl j, _, _, _, _, rfl, by rw [List.length_append, kids_len (by rw [← HN2.out]; exact Nat.le_refl _), HQ.out], Nat.le_refl _, HALL.out.2 b', Lib.hid HI.out.cp⟩
end Go.Proofs.YtfpiannnggkdiaaDoor
