/- Package text: where a byte that is shown comes from: Source. -/
import Derived.Test.YtjfpaahidfhkoaaDoorTyA
import Derived.WalkKit
import Derived.Lib.Hide
import Derived.Outline
import Derived.Deep.QuietTactic
import Derived.BigQuiet
import Derived.Deep.RegionHeld3
import Derived.Laws.EntriesVeiled
namespace Go.Proofs.YtjfpaahidfhkoaaDoor
open Go.RowKit

/-- Where the byte with the number n comes from: before, where, whether it has been met. -/
def srcStep (n : Int) (st : Int × Int × Bool) (x : Sp) : Int × Int × Bool :=
  (st.1 + (shTo x - shFrom x), if st.2.2 = false ∧ n - st.1 < shTo x - shFrom x then (shFrom x + n - st.1, true) else st.2)
def srcAfter (n : Int) (l : List Sp) : Int × Int × Bool := l.foldl (srcStep n) (0, 0, false)
theorem srcAfter_snoc (n : Int) (l : List Sp) (x : Sp) : srcAfter n (l ++ [x]) = srcStep n (srcAfter n l) x := by simp [srcAfter]

structure SrcAt (Fd At Bf Sr : Nat) (n b r : Int) (fd : Bool) (w : World) : Prop where
  f : One w Fd (.bool fd) 4
  a : One w At (.int .i64 n) 3
  b : One w Bf (.int .i64 b) 3
  s : One w Sr (.int .i64 r) 3

theorem SrcAt.kept {Fd At Bf Sr : Nat} {n b r : Int} {fd : Bool} {w w' : World} (h : SrcAt Fd At Bf Sr n b r fd w) (hk : ∀ k, k < w.heap.size → w'.heap[k]? = w.heap[k]?) : SrcAt Fd At Bf Sr n b r fd w' :=
  ⟨h.f.kept (hk _ h.f.lt), h.a.kept (hk _ h.a.lt), h.b.kept (hk _ h.b.lt), h.s.kept (hk _ h.s.lt)⟩

def SrcGone (Fd At Bf Sr : Nat) (n : Int) (st : Int × Int × Bool) (w : World) (e : Ending) (w' : World) : Prop :=
  e = .returned (.tuple #[]) ∧ SrcAt Fd At Bf Sr n st.1 st.2.1 st.2.2 w' ∧ Out (fun k => k = Fd ∨ k = Bf ∨ k = Sr) w w'

theorem SrcAt.met {Fd At Bf Sr : Nat} (hd : Fd ≠ At ∧ Fd ≠ Bf ∧ Fd ≠ Sr ∧ At ≠ Bf ∧ At ≠ Sr ∧ Bf ≠ Sr) {n b r b' r' : Int} {fd : Bool} {w : World} (h : SrcAt Fd At Bf Sr n b r fd w) :
    SrcAt Fd At Bf Sr n b' r' true (((w.setCell ⟨Sr, 0, none⟩ (.int .i64 r')).setCell ⟨Fd, 0, none⟩ (.bool true)).setCell ⟨Bf, 0, none⟩ (.int .i64 b')) := by
  obtain ⟨h1, h2, h3, h4, h5, h6⟩ := hd
  exact ⟨((h.f.set_other h3).set_ _).set_other h2, ((h.a.set_other h5).set_other h1.symm).set_other h4, ((h.b.set_other h6).set_other h2.symm).set_ _, ((h.s.set_ _).set_other h3.symm).set_other h6.symm⟩
theorem SrcAt.past {Fd At Bf Sr : Nat} (hd : Fd ≠ At ∧ Fd ≠ Bf ∧ Fd ≠ Sr ∧ At ≠ Bf ∧ At ≠ Sr ∧ Bf ≠ Sr) {n b r b' : Int} {fd : Bool} {w : World} (h : SrcAt Fd At Bf Sr n b r fd w) :
    SrcAt Fd At Bf Sr n b' r fd (w.setCell ⟨Bf, 0, none⟩ (.int .i64 b')) := by
  obtain ⟨h1, h2, h3, h4, h5, h6⟩ := hd
  exact ⟨h.f.set_other h2, h.a.set_other h4, h.b.set_ _, h.s.set_other h6.symm⟩
theorem src_outs (w w1 : World) (Fd Bf Sr : Nat) (u v x : Value) (h : Out (fun _ => False) w w1) :
    Out (fun k => k = Fd ∨ k = Bf ∨ k = Sr) w (((w1.setCell ⟨Sr, 0, none⟩ u).setCell ⟨Fd, 0, none⟩ v).setCell ⟨Bf, 0, none⟩ x) :=
  (((h.mono (fun _ h => h.elim)).trans (out_set w1 Sr u) (fun k _ (e : k = Sr) => .inr (.inr e))).trans (out_set _ Fd v) (fun k _ (e : k = Fd) => .inl e)).trans (out_set _ Bf x) (fun k _ (e : k = Bf) => .inr (.inl e))
theorem src_outs1 (w w1 : World) (Fd Bf Sr : Nat) (x : Value) (h : Out (fun _ => False) w w1) : Out (fun k => k = Fd ∨ k = Bf ∨ k = Sr) w (w1.setCell ⟨Bf, 0, none⟩ x) :=
  (h.mono (fun _ h => h.elim)).trans (out_set _ Bf x) (fun k _ (e : k = Bf) => .inr (.inl e))

set_option maxRecDepth 100000 in
set_option maxHeartbeats 4000000 in
theorem src_step (Fd At Bf Sr : Nat) (hd : Fd ≠ At ∧ Fd ≠ Bf ∧ Fd ≠ Sr ∧ At ≠ Bf ∧ At ≠ Sr ∧ Bf ≠ Sr) (s : ByteArray) (n b r : Int) (fd : Bool) (x : Sp) (w : World) (h : SrcAt Fd At Bf Sr n b r fd w) (hx : SpOk s x) (hs : s.size ≤ 4000000000)
    (hn : 0 ≤ n) (hn2 : n ≤ 9223372036854775807) (hb : 0 ≤ b) (hb2 : b ≤ 4000000000) :
    Calls Tryd.prog 25 #[x.val, .pointer (some ⟨Fd, 0, none⟩), .pointer (some ⟨At, 0, none⟩), .pointer (some ⟨Bf, 0, none⟩), .pointer (some ⟨Sr, 0, none⟩)] w (SrcGone Fd At Bf Sr n (srcStep n (b, r, fd) x) w) := by
  have l1 := hx.lo
  have l2 := hx.le
  have l3 := hx.hi
  have hsh := fun W => shownPart_any x W hx.f hx.t hx.text hx.shw
  have hst : srcStep n (b, r, fd) x = (b + (shTo x - shFrom x), if fd = false ∧ n - b < shTo x - shFrom x then (shFrom x + n - b, true) else (r, fd)) := rfl
  rw [hst]
  clear hst
  obtain ⟨A, hA⟩ : ∃ A : Nat, shFrom x = A := ⟨(shFrom x).toNat, by omega⟩
  obtain ⟨Z, hZ⟩ : ∃ Z : Nat, shTo x = Z := ⟨(shTo x).toNat, by omega⟩
  rw [hA, hZ] at hsh ⊢
  rw [hA] at l1 l2
  rw [hZ] at l2 l3
  obtain ⟨xk, xf, xe, xt, xs, xi, xb⟩ := x
  unfold Sp.val at hsh ⊢
  simp only at hsh ⊢
  have HSH := Lib.hid hsh
  have HH := Lib.hid h
  have w1 : IntKind.i64.wrap (n - b) = n - b := IntWalk.i64_in _ (by omega)
  have w2 : IntKind.i64.wrap ((Z : Int) - A) = (Z : Int) - A := IntWalk.i64_in _ (by omega)
  have w3 : IntKind.i64.wrap (b + ((Z : Int) - A)) = b + ((Z : Int) - A) := IntWalk.i64_in _ (by omega)
  clear h hx hsh hA hZ
  by_cases hc : fd = false ∧ n - b < (Z : Int) - A
  · obtain ⟨rfl, h2⟩ := hc
    have w4 : IntKind.i64.wrap ((A : Int) + n) = (A : Int) + n := IntWalk.i64_in _ (by omega)
    have w5 : IntKind.i64.wrap ((A : Int) + n - b) = (A : Int) + n - b := IntWalk.i64_in _ (by omega)
    have d1 : decide (n - b < (Z : Int) - A) = true := decide_eq_true h2
    rw [if_pos ⟨rfl, h2⟩]
    go_enter Tryd.func25, Tryd.ntmps25
    go_wp2_with fail
    refine (HSH.out _).mono ?_
    rintro e1 w1' ⟨rfl, hb1⟩
    have hk1 : ∀ k, k < w.heap.size → w1'.heap[k]? = w.heap[k]? := fun k hk => (hb1.block k (by simp; omega)).trans (Below.heap_alloc w _ k hk)
    have K1 := Lib.hid (HH.out.kept hk1)
    have O1 := Lib.hid ((Out.of_below (F := fun _ => False) ((Below.refl _ _).alloc (Nat.le_refl _) _)).trans (Out.of_below (F := fun _ => False) hb1) (fun _ _ h => h))
    have cf := K1.out.f.cell
    have ca := K1.out.a.cell
    have cb := K1.out.b.cell
    have cs := K1.out.s.cell
    have ff := K1.out.f.frozen
    have fb := K1.out.b.frozen
    have fs := K1.out.s.frozen
    clear hb1 hk1
    go_wp2
    go_end0
    exact ⟨rfl, K1.out.met hd, src_outs _ _ _ _ _ _ _ _ O1.out⟩
  · rw [if_neg hc]
    by_cases hf : fd = true
    · subst hf
      go_enter Tryd.func25, Tryd.ntmps25
      go_wp2_with fail
      refine (HSH.out _).mono ?_
      rintro e1 w1' ⟨rfl, hb1⟩
      have hk1 : ∀ k, k < w.heap.size → w1'.heap[k]? = w.heap[k]? := fun k hk => (hb1.block k (by simp; omega)).trans (Below.heap_alloc w _ k hk)
      have K1 := Lib.hid (HH.out.kept hk1)
      have O1 := Lib.hid ((Out.of_below (F := fun _ => False) ((Below.refl _ _).alloc (Nat.le_refl _) _)).trans (Out.of_below (F := fun _ => False) hb1) (fun _ _ h => h))
      have cf := K1.out.f.cell
      have ca := K1.out.a.cell
      have cb := K1.out.b.cell
      have cs := K1.out.s.cell
      have ff := K1.out.f.frozen
      have fb := K1.out.b.frozen
      have fs := K1.out.s.frozen
      clear hb1 hk1
      go_wp2
      go_end0
      exact ⟨rfl, K1.out.past hd, src_outs1 _ _ _ _ _ _ O1.out⟩
    · have hf2 : fd = false := by simpa using hf
      subst hf2
      have d1 : decide (n - b < (Z : Int) - A) = false := decide_eq_false (fun h => hc ⟨rfl, h⟩)
      clear hc hf
      go_enter Tryd.func25, Tryd.ntmps25
      go_wp2_with fail
      refine (HSH.out _).mono ?_
      rintro e1 w1' ⟨rfl, hb1⟩
      have hk1 : ∀ k, k < w.heap.size → w1'.heap[k]? = w.heap[k]? := fun k hk => (hb1.block k (by simp; omega)).trans (Below.heap_alloc w _ k hk)
      have K1 := Lib.hid (HH.out.kept hk1)
      have O1 := Lib.hid ((Out.of_below (F := fun _ => False) ((Below.refl _ _).alloc (Nat.le_refl _) _)).trans (Out.of_below (F := fun _ => False) hb1) (fun _ _ h => h))
      have cf := K1.out.f.cell
      have ca := K1.out.a.cell
      have cb := K1.out.b.cell
      have cs := K1.out.s.cell
      have ff := K1.out.f.frozen
      have fb := K1.out.b.frozen
      have fs := K1.out.s.frozen
      clear hb1 hk1
      go_wp2
      go_end0
      exact ⟨rfl, K1.out.past hd, src_outs1 _ _ _ _ _ _ O1.out⟩
end Go.Proofs.YtjfpaahidfhkoaaDoor
