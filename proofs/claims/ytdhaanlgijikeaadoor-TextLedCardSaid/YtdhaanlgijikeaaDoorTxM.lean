/- Package text, part 13: what is shown of a string: PlainOf. -/
import Derived.Test.YtdhaanlgijikeaaDoorTxL
import Derived.Test.YtdhaanlgijikeaaDoorShelf
import Derived.WalkKit
import Derived.Lib.Hide
import Derived.Outline
import Derived.Deep.QuietTactic
import Derived.BigQuiet
import Derived.Deep.RegionHeld3
import Derived.Laws.EntriesVeiled
namespace Go.Proofs.YtdhaanlgijikeaaDoor
open Go.RowKit

def shFrom (x : Sp) : Int := if x.kind = 2 then x.from_ + 1 else if x.kind = 3 then x.from_ + 1 else if x.kind = 4 then (if x.shw.toList = [] then (x.to_ : Int) - 2 - x.text.size else (x.to_ : Int) - 2 - x.shw.size) else if x.kind = 7 then x.to_ else x.from_
def shTo (x : Sp) : Int := if x.kind = 3 then (x.to_ : Int) - 1 else if x.kind = 4 then (x.to_ : Int) - 2 else x.to_
theorem ret2 {a b c d : Int} (h1 : a = c) (h2 : b = d) : Ending.returned (.tuple #[.int .i64 a, .int .i64 b]) = .returned (.tuple #[.int .i64 c, .int .i64 d]) := by rw [h1, h2]

theorem below_drewN' {B : Nat} {a w : World} (h : Below B a w) (n : Nat) : Below B a (w.drewN n) := ⟨h.os, h.tape, h.output, h.size, h.block⟩
theorem one_new (w : World) (o : Obj) (n : Nat) : Below w.heap.size w ((w.alloc o).drewN n) := below_drewN' ((Below.refl _ _).alloc (Nat.le_refl _) o) n

set_option maxRecDepth 100000 in
set_option maxHeartbeats 4000000 in
theorem shownPart_any (x : Sp) (w : World) (h1 : x.from_ ≤ 4000000000) (h2 : x.to_ ≤ 4000000000) (h3 : x.text.size ≤ 4000000000) (h4 : x.shw.size ≤ 4000000000) :
    Calls Tryd.prog 14 #[x.val] w (Quiet w (.tuple #[.int .i64 (shFrom x), .int .i64 (shTo x)])) := by
  obtain ⟨k, f, e, t, s, i, b⟩ := x
  unfold Sp.val
  simp only at h1 h2 h3 h4 ⊢
  by_cases k2 : k = 2
  · subst k2
    have hx : shFrom ⟨2, f, e, t, s, i, b⟩ = (f : Int) + 1 ∧ shTo ⟨2, f, e, t, s, i, b⟩ = (e : Int) := ⟨rfl, rfl⟩
    have w1 : IntKind.i64.wrap ((f : Int) + 1) = (f : Int) + 1 := IntWalk.i64_in _ (by omega)
    rw [hx.1, hx.2]
    clear hx
    go_enter Tryd.func14, Tryd.ntmps14
    go_wp2
    go_quiet (fail)
    go_wp2
    go_ret2
    exact ⟨rfl, one_new _ _ _⟩
  by_cases k3 : k = 3
  · subst k3
    have hx : shFrom ⟨3, f, e, t, s, i, b⟩ = (f : Int) + 1 ∧ shTo ⟨3, f, e, t, s, i, b⟩ = (e : Int) - 1 := ⟨rfl, rfl⟩
    have w1 : IntKind.i64.wrap ((f : Int) + 1) = (f : Int) + 1 := IntWalk.i64_in _ (by omega)
    have w2 : IntKind.i64.wrap ((e : Int) - 1) = (e : Int) - 1 := IntWalk.i64_in _ (by omega)
    rw [hx.1, hx.2]
    clear hx
    go_enter Tryd.func14, Tryd.ntmps14
    go_wp2
    go_quiet (fail)
    go_wp2
    go_ret2
    exact ⟨rfl, one_new _ _ _⟩
  by_cases k4 : k = 4
  · subst k4
    by_cases hs : s.toList = []
    · have hb : s.toList.isEmpty = true := by simp [hs]
      have hx : shFrom ⟨4, f, e, t, s, i, b⟩ = (e : Int) - 2 - t.size ∧ shTo ⟨4, f, e, t, s, i, b⟩ = (e : Int) - 2 := ⟨by simp [shFrom, hs], rfl⟩
      have w3 : IntKind.i64.wrap ((e : Int) - 2) = (e : Int) - 2 := IntWalk.i64_in _ (by omega)
      have w4 : IntKind.i64.wrap ((e : Int) - 2 - t.size) = (e : Int) - 2 - t.size := IntWalk.i64_in _ (by omega)
      rw [hx.1, hx.2]
      clear hx
      go_enter Tryd.func14, Tryd.ntmps14
      go_wp2
      go_ret2
      exact ⟨rfl, (Below.refl _ _).alloc (Nat.le_refl _) _⟩
    · have hb : s.toList.isEmpty = false := by simp [hs]
      have hx : shFrom ⟨4, f, e, t, s, i, b⟩ = (e : Int) - 2 - s.size ∧ shTo ⟨4, f, e, t, s, i, b⟩ = (e : Int) - 2 := ⟨by simp [shFrom, hs], rfl⟩
      have w3 : IntKind.i64.wrap ((e : Int) - 2) = (e : Int) - 2 := IntWalk.i64_in _ (by omega)
      have w5 : IntKind.i64.wrap ((e : Int) - 2 - s.size) = (e : Int) - 2 - s.size := IntWalk.i64_in _ (by omega)
      rw [hx.1, hx.2]
      clear hx
      go_enter Tryd.func14, Tryd.ntmps14
      go_wp2
      go_ret2
      exact ⟨rfl, (Below.refl _ _).alloc (Nat.le_refl _) _⟩
  by_cases k7 : k = 7
  · subst k7
    have hx : shFrom ⟨7, f, e, t, s, i, b⟩ = (e : Int) ∧ shTo ⟨7, f, e, t, s, i, b⟩ = (e : Int) := ⟨rfl, rfl⟩
    rw [hx.1, hx.2]
    clear hx
    go_enter Tryd.func14, Tryd.ntmps14
    go_wp2
    go_quiet (fail)
    go_wp2
    go_ret2
    exact ⟨rfl, one_new _ _ _⟩
  have d2 : ((k : Int) == 2) = false := by simp only [beq_eq_false_iff_ne, ne_eq]; omega
  have d3 : ((k : Int) == 3) = false := by simp only [beq_eq_false_iff_ne, ne_eq]; omega
  have d4 : ((k : Int) == 4) = false := by simp only [beq_eq_false_iff_ne, ne_eq]; omega
  have d7 : ((k : Int) == 7) = false := by simp only [beq_eq_false_iff_ne, ne_eq]; omega
  have hx : shFrom ⟨k, f, e, t, s, i, b⟩ = (f : Int) ∧ shTo ⟨k, f, e, t, s, i, b⟩ = (e : Int) := ⟨by simp [shFrom, k2, k3, k4, k7], by simp [shTo, k3, k4]⟩
  rw [hx.1, hx.2]
  clear hx
  go_enter Tryd.func14, Tryd.ntmps14
  go_wp2
  go_quiet (fail)
  go_wp2
  go_ret2
  exact ⟨rfl, one_new _ _ _⟩

/-! ### PlainOf -/
def shownB (s : ByteArray) (x : Sp) : List UInt8 := (s.extract (shFrom x).toNat (shTo x).toNat).data.toList
def shownL (s : ByteArray) (l : List Sp) : List UInt8 := l.flatMap (shownB s)
structure SpOk (s : ByteArray) (x : Sp) : Prop where
  f : x.from_ ≤ 4000000000
  t : x.to_ ≤ 4000000000
  text : x.text.size ≤ 4000000000
  shw : x.shw.size ≤ 4000000000
  lo : 0 ≤ shFrom x
  le : shFrom x ≤ shTo x
  hi : shTo x ≤ s.size

def PlainI (b S : Nat) (s : ByteArray) (done : List Sp) (F : Nat → Prop) (w : World) : Prop :=
  ∃ Fb, Bld b (Lib.byteCells (shownL s done)) Fb w ∧ One w S (.string s) 9 ∧ ¬ Fb S ∧ F = fun k => Fb k ∨ k = S

/-- One span is written. -/
def PlainStep (b S : Nat) (s : ByteArray) (done : List Sp) (x : Sp) (F : Nat → Prop) (w : World) (e : Ending) (w' : World) : Prop :=
  e = .returned (.tuple #[]) ∧ ∃ F', PlainI b S s (done ++ [x]) F' w' ∧ Grew F w F' w'

set_option maxRecDepth 100000 in
set_option maxHeartbeats 4000000 in
theorem plain_step (b S : Nat) (s : ByteArray) (done : List Sp) (x : Sp) (F : Nat → Prop) (w : World) (h : PlainI b S s done F w) (hx : SpOk s x) (hl : (shownL s done).length ≤ 4000000000) (hs : s.size ≤ 4000000000) :
    Calls Tryd.prog 13 #[x.val, .pointer (some ⟨b, 0, none⟩), .pointer (some ⟨S, 0, none⟩)] w (PlainStep b S s done x F w) := by
  obtain ⟨Fb, hB, hS, hn, hF⟩ := h
  have HF := Lib.hid hF
  clear hF
  have HS := Lib.hid hS
  have HB := Lib.hid hB
  have HN := Lib.hid hn
  have cS := hS.cell
  have l1 := hx.lo
  have l2 := hx.le
  have l3 := hx.hi
  have hsh := fun W => shownPart_any x W hx.f hx.t hx.text hx.shw
  obtain ⟨A, hA⟩ : ∃ A : Nat, shFrom x = A := ⟨(shFrom x).toNat, by omega⟩
  obtain ⟨Z, hZ⟩ : ∃ Z : Nat, shTo x = Z := ⟨(shTo x).toNat, by omega⟩
  have hby : shownB s x = (s.extract A Z).data.toList := by unfold shownB; rw [hA, hZ]; rfl
  rw [hA, hZ] at hsh
  rw [hA] at l1 l2
  rw [hZ] at l2 l3
  have HBY := Lib.hid hby
  obtain ⟨xk, xf, xe, xt, xs, xi, xb⟩ := x
  unfold Sp.val at hsh ⊢
  simp only at hsh ⊢
  have HSH := Lib.hid hsh
  clear hB hx hn hS hsh hA hZ hby
  go_enter Tryd.func13, Tryd.ntmps13
  go_wp2_with fail
  refine (HSH.out _).mono ?_
  rintro e1 w1 ⟨rfl, hb1⟩
  have cS1 : w1.cell? ⟨S, 0, none⟩ = some (.string s) := by
    rw [hb1.cell (p := ⟨S, 0, none⟩) (by have := HS.out.lt; simp; omega)]
    rw [World.cell?_of_block (w := w) (Below.heap_alloc w _ S HS.out.lt)]
    exact cS
  have ho1 : Out (fun _ => False) w w1 := (Out.of_below (F := fun _ => False) ((Below.refl _ _).alloc (Nat.le_refl _) _)).trans (Out.of_below (F := fun _ => False) hb1) (fun _ _ h => h)
  have hB1 : Bld b (Lib.byteCells (shownL s done)) Fb w1 := HB.out.loc (fun k hk => ho1.block k (HB.out.lt k hk) (fun h => h))
  have HB1 := Lib.hid hB1
  have HO1 := Lib.hid ho1
  clear hb1 ho1 hB1
  go_wp2_with fail
  refine (writeString_any b _ _ Fb w1 HB1.out ?_).mono ?_
  · have hl1 : (Lib.byteCells (shownL s done)).length = (shownL s done).length := by simp [Lib.byteCells]
    have hl2 : (s.extract A Z).size ≤ s.size := by rw [ByteArray.size_extract]; omega
    omega
  rintro e2 w2 ⟨rfl, F2, hB2, hg2⟩
  have HB2 := Lib.hid hB2
  have HG2 := Lib.hid hg2
  clear hB2 hg2
  go_wp2
  go_end0
  have hcat : Lib.byteCells (shownL s done) ++ Lib.strCells (s.extract A Z) = Lib.byteCells (shownL s (done ++ [⟨xk, xf, xe, xt, xs, xi, xb⟩])) := by
    unfold shownL
    rw [List.flatMap_append, List.flatMap_singleton, HBY.out]
    simp [Lib.byteCells, Lib.strCells]
  have hlt := HS.out.lt
  have hnF2 : ¬ F2 S := fun hf => by
    rcases HG2.out.new S hf with h | h
    · exact HN.out h
    · have := HO1.out.size; omega
  have hw2 : w2.heap[S]? = w.heap[S]? := by
    rw [HG2.out.out.block S (by have := HO1.out.size; omega) HN.out, HO1.out.block S hlt (fun h => h)]
  refine ⟨rfl, fun k => F2 k ∨ k = S, ⟨F2, ?_, HS.out.kept hw2, hnF2, rfl⟩, ⟨?_, ?_⟩⟩
  · rw [← hcat]; exact HB2.out
  · rw [HF.out]
    exact (HO1.out.mono (fun _ h => h.elim)).trans HG2.out.out (fun _ _ h => .inl h)
  · rw [HF.out]
    rintro k (hk | hk)
    · rcases HG2.out.new k hk with h | h
      · exact .inl (.inl h)
      · exact .inr (by have := HO1.out.size; omega)
    · exact .inl (.inr hk)

theorem plain_visits (b S : Nat) (s : ByteArray) (hs : s.size ≤ 4000000000) (hok : ∀ x ∈ spans s, SpOk s x) (hl : ∀ pre post, spans s = pre ++ post → (shownL s pre).length ≤ s.size) :
    Visits Tryd.prog 13 #[.pointer (some ⟨b, 0, none⟩), .pointer (some ⟨S, 0, none⟩)] spArgs (spans s) (PlainI b S s) where
  enter := enters_of Tryd.func13 (by kernel_rfl) rfl
  lt := by
    rintro done F w ⟨Fb, hB, hS, hn, rfl⟩ k (hk | rfl)
    · exact hB.lt k hk
    · exact hS.lt
  loc := by
    rintro done F w w' ⟨Fb, hB, hS, hn, rfl⟩ hk _
    exact ⟨Fb, hB.loc (fun k h => hk k (.inl h)), hS.kept (hk S (.inr rfl)), hn, rfl⟩
  step := by
    intro done x post F w ha h
    refine (plain_step b S s done x F w h (hok x (by rw [ha]; simp)) (by have := hl done _ ha; omega) hs).mono ?_
    rintro e w' ⟨rfl, F', h1, h2⟩
    exact ⟨rfl, F', h1, h2⟩

theorem Bld.isBuilder {b B : Nat} {bs : List Value} {F : Nat → Prop} {w : World} (h : Bld b bs F w) (hF : ∀ k, F k → B ≤ k) : Lib.IsBuilder 39 5 B b bs w := by
  obtain ⟨p, v, hp, hb, hown, hne, rfl⟩ := h
  have h2 : w.ownsRow B 5 1 v bs.length bs := by
    refine ⟨hown.1, ?_⟩
    rcases hown.2 with h | ⟨g, cap, cur, rfl, _, h2⟩
    · exact .inl h
    · exact .inr ⟨g, cap, cur, rfl, hF g (.inr rfl), h2⟩
  rcases hp with rfl | rfl
  · exact .inl ⟨hF b (.inl rfl), v, hb, h2, hne⟩
  · exact .inr ⟨hF b (.inl rfl), v, hb, h2, hne⟩

theorem plain_start (s : ByteArray) (w : World) : PlainI (w.heap.size + 1) w.heap.size s [] (fun k => k = w.heap.size + 1 ∨ k = w.heap.size) ((w.alloc (.cells #[.string s] 9)).alloc (.cells #[.pointer none, .slice none 0 0] 39)) := by
  refine ⟨fun k => k = w.heap.size + 1, ⟨.pointer none, .slice none 0 0, .inl rfl, ?_, World.ownsRow_nil _ _ _ _, by simp [Value.ownBlock], ?_⟩, ?_, by omega, rfl⟩
  · have := heap_alloc_new (w.alloc (.cells #[.string s] 9)) (.cells #[.pointer none, .slice none 0 0] 39)
    simpa using this
  · funext k; simp [Value.ownBlock]
  · unfold One
    rw [Below.heap_alloc _ _ _ (by simp)]
    exact heap_alloc_new w _

set_option maxRecDepth 100000 in
set_option maxHeartbeats 4000000 in
/-- What is shown of a string. -/
theorem plainOf_any (s : ByteArray) (w : World) (hs : s.size ≤ 4000000000) (hok : ∀ x ∈ spans s, SpOk s x) (hl : ∀ pre post, spans s = pre ++ post → (shownL s pre).length ≤ s.size) :
    Calls Tryd.prog 7 #[.string s] w (Quiet w (.string ⟨(shownL s (spans s)).toArray⟩)) := by
  have hmf : ∀ (fn : Fn) (first cap : Array Value) (w : World), (Instr.makeFunc fn first cap).run Tryd.prog w = .ok (.func fn first cap) w := fun _ _ _ _ => rfl
  have HE := Lib.hid (eachSpan_any s _ _ _ _ _ (by omega) (plain_visits (w.heap.size + 1) w.heap.size s hs hok hl) (plain_start s w))
  clear hok hl
  go_enter Tryd.func7, Tryd.ntmps7
  go_wp2_with fail
  refine HE.out.mono ?_
  rintro e1 w1 ⟨rfl, F1, ⟨Fb, hB, hS, hn, hF⟩, hg⟩
  have hlo : ∀ k, Fb k → w.heap.size ≤ k := fun k hk => by
    rcases hg.new k (by rw [hF]; exact .inl hk) with (h | h) | h
    · omega
    · omega
    · simp at h; omega
  have hbl : Below w.heap.size w w1 := (((Below.refl _ _).alloc (Nat.le_refl _) (.cells #[.string s] 9)).alloc (by simp) (.cells #[.pointer none, .slice none 0 0] 39)).trans (hg.out.below (by simp; omega) (fun k hk => by omega))
  have HIB := Lib.hid (hB.isBuilder hlo)
  have HBL := Lib.hid hbl
  clear hB hS hn hF hg hlo hbl
  go_wp2_with fail
  refine (Tryd.Builder_String_any w.heap.size (w.heap.size + 1) (shownL s (spans s)) _ HIB.out (HBL.out.size)).mono ?_
  rintro e2 w2 ⟨rfl, hb2⟩
  have HB2 := Lib.hid (HBL.out.trans hb2)
  clear hb2
  go_wp2
  go_ret
  exact ⟨rfl, HB2.out⟩
end Go.Proofs.YtdhaanlgijikeaaDoor
