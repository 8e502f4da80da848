/- Package text, part 10: eachSpan, for any visitor. -/
import Derived.Test.YtdhaanlgijikeaaDoorTxI
import Derived.WalkKit
import Derived.Lib.Hide
import Derived.Outline
import Derived.Deep.QuietTactic
import Derived.BigQuiet
import Derived.Deep.RegionHeld3
import Derived.Laws.EntriesVeiled
namespace Go.Proofs.YtdhaanlgijikeaaDoor
open Go.RowKit

theorem tok_visits {K : Nat} {cap : Array Value} {s : ByteArray} {I : List Sp → (Nat → Prop) → World → Prop} (hV : Visits Tryd.prog K cap spArgs (spans s) I) (D V S E Q L : Nat) (hs : s.size ≤ 140737488355328) :
    Visits Tryd.prog 20 #[.pointer (some ⟨E, 0, none⟩), .pointer (some ⟨Q, 0, none⟩), .pointer (some ⟨L, 0, none⟩), .pointer (some ⟨S, 0, none⟩), .pointer (some ⟨V, 0, none⟩), .pointer (some ⟨D, 0, none⟩)] tokArgs (toks s) (fun done G w => TokInv K cap s I D V S E Q L done G w) where
  enter := enters_of Tryd.func20 (by kernel_rfl) rfl
  lt := fun done G w h => h.lt hV
  loc := fun done G w w' h hk hs => h.loc hV hk hs
  step := fun done t post G w ha h => tok_step hV hs h ha

theorem and_even (n : Nat) (h : n < 9223372036854775808) : n &&& 18446744073709551614 = n - n % 2 := by
  have h1 : (n &&& 18446744073709551614) / 2 = n / 2 := by
    rw [Nat.and_div_two]
    have e : (18446744073709551614 : Nat) / 2 = 2 ^ 63 - 1 := by decide
    rw [e, Nat.and_two_pow_sub_one_eq_mod]
    omega
  have h2 : (n &&& 18446744073709551614) % 2 = 0 := by
    have := Nat.and_mod_two_pow (a := n) (b := 18446744073709551614) (n := 1)
    simpa using this
  omega
theorem andNot_one (n : Nat) (h : n ≤ 140737488355328) : bits .andNot .i64 (n : Int) 1 = ((n - n % 2 : Nat) : Int) := by
  show IntKind.i64.wrap ((BitVec.ofInt 64 (n : Int) &&& ~~~BitVec.ofInt 64 1).toNat : Int) = _
  have e1 : (BitVec.ofInt 64 (n : Int)).toNat = n := by rw [BitVec.toNat_ofInt]; omega
  have e2 : (~~~BitVec.ofInt 64 1).toNat = 18446744073709551614 := by decide
  rw [BitVec.toNat_and, e1, e2, and_even n (by omega), IntKind.wrap_i64]
  omega

/-- What holds before the first token. -/
theorem tok_start {K : Nat} {cap : Array Value} {s : ByteArray} {I : List Sp → (Nat → Prop) → World → Prop} {F0 : Nat → Prop} {w w1 : World} (hV : Visits Tryd.prog K cap spArgs (spans s) I) (hI : I [] F0 w)
    (hb : Below ((w.alloc (.cells #[.string s] 9)).alloc (.cells #[.func (Fn.func K) #[] cap] 33)).heap.size ((w.alloc (.cells #[.string s] 9)).alloc (.cells #[.func (Fn.func K) #[] cap] 33)) w1) {W : World}
    (hW : W = (((w1.alloc (.cells #[.int .i64 (partnersOf s)] 3)).alloc (.cells #[.int .i64 0] 3)).alloc (.cells #[.int .i64 0] 3)).alloc (.cells #[plainVal (w1.heap.size + 1 + 1) (w.heap.size + 1) w.heap.size (w1.heap.size + 1)] 48)) :
    TokInv K cap s I (w1.heap.size + 1 + 1) (w.heap.size + 1) w.heap.size (w1.heap.size + 1) w1.heap.size (w1.heap.size + 1 + 1 + 1) []
      (fun k => F0 k ∨ k = w1.heap.size + 1 + 1 ∨ k = w.heap.size + 1 ∨ k = w.heap.size ∨ k = w1.heap.size + 1 ∨ k = w1.heap.size ∨ k = w1.heap.size + 1 + 1 + 1) W ∧ Below w.heap.size w W := by
  have hsz : w.heap.size + 1 + 1 ≤ w1.heap.size := by have := hb.size; simpa using this
  have h0 : Below w.heap.size w w1 := ((((Below.refl _ _).alloc (Nat.le_refl _) _).alloc (by simp) _).trans (hb.mono (by simp; omega)))
  have hw : Below w1.heap.size w1 W := by
    rw [hW]
    exact ((((Below.refl _ _).alloc (Nat.le_refl _) _).alloc (by simp) _).alloc (by simp; omega) _).alloc (by simp; omega) _
  have h1 : Below w.heap.size w W := h0.trans (hw.mono (by omega))
  have e0 : w1.heap[w.heap.size]? = some (.cells #[.string s] 9 (0, 0)) := by
    rw [hb.block _ (by simp; omega), Below.heap_alloc _ _ _ (by simp)]; exact heap_alloc_new w _
  have e1 : w1.heap[w.heap.size + 1]? = some (.cells #[.func (Fn.func K) #[] cap] 33 (0, 0)) := by
    rw [hb.block _ (by simp)]
    have := heap_alloc_new (w.alloc (.cells #[.string s] 9)) (.cells #[.func (Fn.func K) #[] cap] 33)
    simpa using this
  have f0 : ∀ k, F0 k → k < w.heap.size := hV.lt _ _ _ hI
  have q : One W w1.heap.size (.int .i64 (partnersOf s)) 3 := by
    unfold One
    rw [hW, Below.heap_alloc _ _ _ (by simp; omega), Below.heap_alloc _ _ _ (by simp; omega), Below.heap_alloc _ _ _ (by simp)]
    exact heap_alloc_new w1 _
  have e : One W (w1.heap.size + 1) (.int .i64 0) 3 := by
    unfold One
    rw [hW, Below.heap_alloc _ _ _ (by simp), Below.heap_alloc _ _ _ (by simp)]
    have := heap_alloc_new (w1.alloc (.cells #[.int .i64 (partnersOf s)] 3)) (.cells #[.int .i64 0] 3)
    simpa using this
  have d : One W (w1.heap.size + 1 + 1) (.int .i64 0) 3 := by
    unfold One
    rw [hW, Below.heap_alloc _ _ _ (by simp)]
    have := heap_alloc_new ((w1.alloc (.cells #[.int .i64 (partnersOf s)] 3)).alloc (.cells #[.int .i64 0] 3)) (.cells #[.int .i64 0] 3)
    simpa using this
  have l : One W (w1.heap.size + 1 + 1 + 1) (plainVal (w1.heap.size + 1 + 1) (w.heap.size + 1) w.heap.size (w1.heap.size + 1)) 48 := by
    unfold One
    rw [hW]
    have := heap_alloc_new (((w1.alloc (.cells #[.int .i64 (partnersOf s)] 3)).alloc (.cells #[.int .i64 0] 3)).alloc (.cells #[.int .i64 0] 3)) (.cells #[plainVal (w1.heap.size + 1 + 1) (w.heap.size + 1) w.heap.size (w1.heap.size + 1)] 48)
    simpa using this
  have nf : ∀ k, w.heap.size ≤ k → ¬ F0 k := fun k hk hf => by have := f0 k hf; omega
  refine ⟨⟨⟨F0, fun k => Iff.rfl, ?_, ⟨d, ?_, ?_, e, nf _ (by omega), nf _ (by omega), nf _ (by omega), nf _ (by omega)⟩, nf _ (by omega), nf _ (by omega)⟩, q, l, ?_⟩, h1⟩
  · exact hV.loc _ _ _ _ hI (fun k hf => h1.block k (f0 k hf)) h1.size
  · unfold One; rw [hw.block _ (by omega)]; exact e1
  · unfold One; rw [hw.block _ (by omega)]; exact e0
  · refine ⟨?_, ?_, ?_, ?_, ?_, ?_, ?_, ?_, ?_⟩ <;> omega

/-- What holds after the last token. -/
theorem tok_end {K : Nat} {cap : Array Value} {s : ByteArray} {I : List Sp → (Nat → Prop) → World → Prop} {F0 G' : Nat → Prop} {w w1 W w5 : World} {D V S E Q L : Nat} (hb : Below w.heap.size w W)
    (h6 : w.heap.size ≤ D ∧ w.heap.size ≤ V ∧ w.heap.size ≤ S ∧ w.heap.size ≤ E ∧ w.heap.size ≤ Q ∧ w.heap.size ≤ L)
    (hg : Grew (fun k => F0 k ∨ k = D ∨ k = V ∨ k = S ∨ k = E ∨ k = Q ∨ k = L) W G' w5) (hT : TokInv K cap s I D V S E Q L (toks s) G' w5) :
    ∃ F5, I (stAfter s (toks s)).out F5 w5 ∧ Env K cap s D V S E (stAfter s (toks s)).seen (stAfter s (toks s)).done F5 w5 ∧ One w5 L (plainVal D V S E) 48 ∧ Grew F0 w F5 w5 := by
  obtain ⟨F, hG, hI, hE, _, _⟩ := hT.foot
  refine ⟨F, hI, hE, hT.l, ⟨?_, fun k hk => ?_⟩⟩
  · refine (Out.of_below hb).trans hg.out (fun n hn h => ?_)
    rcases h with h | h
    · exact h
    · omega
  · rcases hg.new k ((hG k).2 (.inl hk)) with (h | h) | h
    · exact .inl h
    · exact .inr (by omega)
    · exact .inr (by have := hb.size; omega)

set_option maxRecDepth 100000 in
set_option maxHeartbeats 4000000 in
theorem eachSpan_any (s : ByteArray) (K : Nat) (cap : Array Value) (I : List Sp → (Nat → Prop) → World → Prop) (F0 : Nat → Prop) (w : World) (hs : s.size ≤ 140737488355328)
    (hV : Visits Tryd.prog K cap spArgs (spans s) I) (hI : I [] F0 w) :
    Calls Tryd.prog 8 #[.string s, .func (Fn.func K) #[] cap] w (Visited I (spans s) F0 w) := by
  have hmf : ∀ (fn : Fn) (first cap : Array Value) (w : World), (Instr.makeFunc fn first cap).run Tryd.prog w = .ok (.func fn first cap) w := fun _ _ _ _ => rfl
  have hql := stars_le (s := s) (pre := toks s) (post := []) (by simp)
  have HV := Lib.hid hV
  have HI := Lib.hid hI
  clear hV hI
  go_enter Tryd.func8, Tryd.ntmps8
  go_wp2_with fail
  refine (countStars_any s _ hs).mono ?_
  rintro e1 w1 ⟨rfl, hb1⟩
  obtain ⟨hT, hBW⟩ := tok_start (W := _) HV.out HI.out hb1 rfl
  have HBW := Lib.hid hBW
  have H2 := Lib.hid (eachToken_any s _ _ _ _ _ hs (tok_visits HV.out _ _ _ _ _ _ hs) hT)
  have c0 : w1.cell? ⟨w.heap.size, 0, none⟩ = some (.string s) := by
    refine (One.cell (v := .string s) (T := 9) ?_)
    unfold One
    rw [hb1.block _ (by simp; omega), Below.heap_alloc _ _ _ (by simp)]; exact heap_alloc_new w _
  have l0 : w.heap.size < w1.heap.size := World.block_lt_of_cell? w1 _ c0
  have l1 : w.heap.size + 1 < w1.heap.size := by have := hb1.size; simp at this; omega
  have han := andNot_one (stars (toks s)) (by omega)
  have hpe : (stars (toks s) - stars (toks s) % 2 : Nat) = partnersOf s := rfl
  rw [hpe] at han
  have hsf : ∀ (a : Addr) (m : Mode) (W : World) (fn : Fn) (first cap : Array Value), (store a (.func fn first cap) m).run Tryd.prog W = stored Tryd.prog W a (.func fn first cap) m := fun a m W fn first cap => run_store_func (P := Tryd.prog) (w := W) (a := a) (m := m) fn first cap
  obtain ⟨F9, hG9, hI9, hE9, hQ9, hL9⟩ := hT.foot
  have c4 := hE9.s.cell
  unfold plainVal at c4 H2
  clear hb1 hT hBW F9 hG9 hI9 hE9 hQ9 hL9
  go_wp2_with fail
  refine H2.out.mono ?_
  rintro e5 w5 ⟨rfl, G', hT5, hg5⟩
  obtain ⟨F5, hI5, hE5, hL5, hG5⟩ := tok_end (w1 := w1) HBW.out (by omega) hg5 hT5
  have HG5 := Lib.hid hG5
  have HI5 := Lib.hid hI5
  have HE5 := Lib.hid hE5
  have cs5 := hE5.s.cell
  have cl5 := hL5.cell
  unfold plainVal at cl5
  have hse := seen_le (s := s) (l := toks s) (m := []) (by simp)
  have H6 := Lib.hid (plainTo_any HV.out s _ _ _ _ (stAfter s (toks s)) s.size F5 w5 hs hE5 hI5 (Nat.le_refl _) hse ⟨[], by unfold spans; simp⟩)
  clear hG5 hI5 hE5 hL5 hg5 hT5
  have hen6 : ∀ (xs : Array Value) (W : World), (callFunc 18 xs).run Tryd.prog W = .ok (.enter 18 xs) W := enters_of Tryd.func18 (by kernel_rfl) rfl
  go_wp2_with fail
  refine H6.out.mono ?_
  rintro e6 w6 ⟨rfl, F6, hI6, hg6⟩
  have HX := Lib.hid (HG5.out.trans hg6)
  have HI6 := Lib.hid hI6
  clear hI6 hg6
  go_wp2
  go_end0
  exact ⟨rfl, F6, HI6.out, HX.out⟩
end Go.Proofs.YtdhaanlgijikeaaDoor
