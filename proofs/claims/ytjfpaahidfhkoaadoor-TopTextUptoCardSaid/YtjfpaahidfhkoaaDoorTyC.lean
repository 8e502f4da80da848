/- Package text: Source. -/
import Derived.Test.YtjfpaahidfhkoaaDoorTyB
import Derived.WalkKit
import Derived.Lib.Hide
import Derived.Outline
import Derived.Deep.QuietTactic
import Derived.BigQuiet
import Derived.Deep.RegionHeld3
import Derived.Laws.EntriesVeiled
namespace Go.Proofs.YtjfpaahidfhkoaaDoor
open Go.RowKit

theorem src_before {s : ByteArray} {n : Int} : ∀ {a b : Nat} {l : List Sp} (st : Int × Int × Bool), SpRow s a l b → st.1 ≤ (l.foldl (srcStep n) st).1 ∧ (l.foldl (srcStep n) st).1 ≤ st.1 + ((b : Int) - a)
  | a, b, [], st, h => by
    have : a = b := h
    simp [this]
  | a, b, x :: r, st, h => by
    have h1 := h.1
    have h2 := h.2.1.lo
    have h3 := h.2.1.le
    have h4 := h.2.1.up
    have h5 := h.2.1.lt
    have := src_before (n := n) (srcStep n st x) h.2.2
    have e : (srcStep n st x).1 = st.1 + (shTo x - shFrom x) := rfl
    rw [e] at this
    rw [List.foldl_cons]
    omega
theorem srcAfter_bound {s : ByteArray} (n : Int) {pre post : List Sp} (h : spans s = pre ++ post) : 0 ≤ (srcAfter n pre).1 ∧ (srcAfter n pre).1 ≤ s.size := by
  have hr := spans_row s
  rw [h] at hr
  obtain ⟨c, h1, h2⟩ := hr.cut
  have := src_before (n := n) (0, 0, false) h1
  have h3 := h2.le
  unfold srcAfter
  simp only at this
  omega

def SrcI (Fd At Bf Sr : Nat) (n : Int) (done : List Sp) (F : Nat → Prop) (w : World) : Prop :=
  SrcAt Fd At Bf Sr n (srcAfter n done).1 (srcAfter n done).2.1 (srcAfter n done).2.2 w ∧ F = fun k => k = Fd ∨ k = At ∨ k = Bf ∨ k = Sr

theorem src_visits (Fd At Bf Sr : Nat) (hd : Fd ≠ At ∧ Fd ≠ Bf ∧ Fd ≠ Sr ∧ At ≠ Bf ∧ At ≠ Sr ∧ Bf ≠ Sr) (s : ByteArray) (hs : s.size ≤ 4000000000) (n : Int) (hn : 0 ≤ n) (hn2 : n ≤ 9223372036854775807) :
    Visits Tryd.prog 25 #[.pointer (some ⟨Fd, 0, none⟩), .pointer (some ⟨At, 0, none⟩), .pointer (some ⟨Bf, 0, none⟩), .pointer (some ⟨Sr, 0, none⟩)] spArgs (spans s) (SrcI Fd At Bf Sr n) where
  enter := enters_of Tryd.func25 (by kernel_rfl) rfl
  lt := by
    rintro done F w ⟨h, rfl⟩ k (rfl | rfl | rfl | rfl)
    · exact h.f.lt
    · exact h.a.lt
    · exact h.b.lt
    · exact h.s.lt
  loc := by
    rintro done F w w' ⟨h, rfl⟩ hk _
    exact ⟨⟨h.f.kept (hk _ (.inl rfl)), h.a.kept (hk _ (.inr (.inl rfl))), h.b.kept (hk _ (.inr (.inr (.inl rfl)))), h.s.kept (hk _ (.inr (.inr (.inr rfl))))⟩, rfl⟩
  step := by
    rintro done x post F w ha ⟨h, rfl⟩
    obtain ⟨b1, b2⟩ := srcAfter_bound n ha
    refine (src_step Fd At Bf Sr hd s n _ _ _ x w h (spans_ok hs x (by rw [ha]; simp)) hs hn hn2 b1 (by omega)).mono ?_
    rintro e w' ⟨rfl, h1, h2⟩
    refine ⟨rfl, _, ⟨?_, rfl⟩, h2.mono (fun k hk => ?_), fun k hk => .inl hk⟩
    · rw [srcAfter_snoc]; exact h1
    · rcases hk with hk | hk | hk
      · exact .inl hk
      · exact .inr (.inr (.inl hk))
      · exact .inr (.inr (.inr hk))

theorem src_start (w : World) (n : Int) : SrcI (w.heap.size + 1 + 1 + 1) w.heap.size (w.heap.size + 1) (w.heap.size + 1 + 1) n [] (fun k => k = w.heap.size + 1 + 1 + 1 ∨ k = w.heap.size ∨ k = w.heap.size + 1 ∨ k = w.heap.size + 1 + 1)
    ((((w.alloc (.cells #[.int .i64 n] 3)).alloc (.cells #[.int .i64 0] 3)).alloc (.cells #[.int .i64 0] 3)).alloc (.cells #[.bool false] 4)) := by
  refine ⟨?_, rfl⟩
  show SrcAt _ _ _ _ n 0 0 false _
  refine ⟨?_, ?_, ?_, ?_⟩
  · have := heap_alloc_new (((w.alloc (.cells #[.int .i64 n] 3)).alloc (.cells #[.int .i64 0] 3)).alloc (.cells #[.int .i64 0] 3)) (.cells #[.bool false] 4)
    unfold One
    simpa using this
  · unfold One
    rw [Below.heap_alloc _ _ _ (by simp; omega), Below.heap_alloc _ _ _ (by simp; omega), Below.heap_alloc _ _ _ (by simp)]
    exact heap_alloc_new w _
  · unfold One
    rw [Below.heap_alloc _ _ _ (by simp), Below.heap_alloc _ _ _ (by simp)]
    have := heap_alloc_new (w.alloc (.cells #[.int .i64 n] 3)) (.cells #[.int .i64 0] 3)
    simpa using this
  · unfold One
    rw [Below.heap_alloc _ _ _ (by simp)]
    have := heap_alloc_new ((w.alloc (.cells #[.int .i64 n] 3)).alloc (.cells #[.int .i64 0] 3)) (.cells #[.int .i64 0] 3)
    simpa using this

/-- What Source gives. -/
def srcOf (s : ByteArray) (n : Int) : Int × Int :=
  if n < 0 then (0, 2) else if (srcAfter n (spans s)).2.2 = true then ((srcAfter n (spans s)).2.1, 0) else if (srcAfter n (spans s)).1 < n then (0, 2) else (s.size, 0)

set_option maxRecDepth 100000 in
set_option maxHeartbeats 4000000 in
theorem source_any (s : ByteArray) (n : Int) (w : World) (hs : s.size ≤ 4000000000) (hn2 : n ≤ 9223372036854775807) :
    Calls Tryd.prog 7 #[.string s, .int .i64 n] w (Quiet w (.tuple #[.int .i64 (srcOf s n).1, .int .i64 (srcOf s n).2])) := by
  have hmf : ∀ (fn : Fn) (first cap : Array Value) (w : World), (Instr.makeFunc fn first cap).run Tryd.prog w = .ok (.func fn first cap) w := fun _ _ _ _ => rfl
  by_cases hn : n < 0
  · have hr : srcOf s n = (0, 2) := by unfold srcOf; rw [if_pos hn]
    rw [hr]
    clear hr
    go_enter Tryd.func7, Tryd.ntmps7
    go_wp2
    go_ret2
    exact ⟨rfl, (Below.refl _ _).alloc (Nat.le_refl _) _⟩
  · have hn0 : 0 ≤ n := by omega
    have d0 : decide (n < 0) = false := decide_eq_false hn
    obtain ⟨b, hb⟩ : ∃ b, b = (srcAfter n (spans s)).1 := ⟨_, rfl⟩
    obtain ⟨r, hr⟩ : ∃ r, r = (srcAfter n (spans s)).2.1 := ⟨_, rfl⟩
    obtain ⟨fd, hfd⟩ : ∃ fd, fd = (srcAfter n (spans s)).2.2 := ⟨_, rfl⟩
    have HO : Hid (srcOf s n = if fd = true then (r, 0) else if b < n then (0, 2) else ((s.size : Int), 0)) := by
      show srcOf s n = _
      unfold srcOf; rw [if_neg hn, hb, hr, hfd]
    obtain ⟨o, ho⟩ : ∃ o, o = srcOf s n := ⟨_, rfl⟩
    rw [← ho] at HO ⊢
    have HEQ := Lib.hid (And.intro hb (And.intro hr hfd))
    have HE := Lib.hid (eachSpan_any s _ _ _ _ _ hs (src_visits (w.heap.size + 1 + 1 + 1) w.heap.size (w.heap.size + 1) (w.heap.size + 1 + 1) (by omega) s hs n hn0 hn2) (src_start w n))
    clear hb hr hfd ho
    go_enter Tryd.func7, Tryd.ntmps7
    go_wp2_with fail
    refine HE.out.mono ?_
    rintro e1 w1 ⟨rfl, F1, ⟨hA, hF⟩, hg⟩
    rw [← HEQ.out.1, ← HEQ.out.2.1, ← HEQ.out.2.2] at hA
    have hbl : Below w.heap.size w w1 := (((((Below.refl _ _).alloc (Nat.le_refl _) (.cells #[.int .i64 n] 3)).alloc (by simp) (.cells #[.int .i64 0] 3)).alloc (by simp; omega) (.cells #[.int .i64 0] 3)).alloc (by simp; omega) (.cells #[.bool false] 4)).trans (hg.out.below (by simp; omega) (fun k hk => by omega))
    have HBL := Lib.hid hbl
    have cf := hA.f.cell
    have ca := hA.a.cell
    have cb := hA.b.cell
    have cs := hA.s.cell
    clear hA hF hg hbl
    cases fd
    · by_cases hlt : b < n
      · have d1 : decide (b < n) = true := decide_eq_true hlt
        have ho2 : o = (0, 2) := by rw [HO.out]; simp [hlt]
        subst ho2
        go_wp2
        go_ret2
        exact ⟨rfl, HBL.out⟩
      · have d1 : decide (b < n) = false := decide_eq_false hlt
        have ho2 : o = ((s.size : Int), 0) := by rw [HO.out]; simp [hlt]
        subst ho2
        go_wp2
        go_ret2
        exact ⟨rfl, HBL.out⟩
    · have ho2 : o = (r, 0) := by rw [HO.out]; simp
      subst ho2
      go_wp2
      go_ret2
      exact ⟨rfl, HBL.out⟩
end Go.Proofs.YtjfpaahidfhkoaaDoor
