/- In and Meets, the program's and the reference's. -/
import Derived.Test.YtkidjhdfpdecoaaVcA
import Derived.WalkKit
import Derived.Lib.Hide
import Derived.Below
import Derived.Deep.QuietTactic
import Derived.BigQuiet
import Derived.Deep.LoopGhost
namespace Go.Proofs.Ytkidjhdfpdecoaa.Vl
open Go.RowKit
open Go.Proofs.Ytkidjhdfpdecoaa.Vals

/-- The answer is this; what lay there is as it was. -/
def SaysB (x : Bool) (w : World) (e : Ending) (w' : World) : Prop := e = .returned (.bool x) ∧ Below w.heap.size w w'

def lowOk (v low : V) : Bool := low.kind == 0 || (low.kind == v.kind && decide (0 ≤ cmpV v low))
def highOk (v high : V) : Bool := high.kind == 0 || (high.kind == v.kind && decide (cmpV v high ≤ 0))
def inB (v low high : V) : Bool := lowOk v low && highOk v high

/-- A world in which three boxes have been made. -/
structure Fx (w W : World) : Prop where
  size : w.heap.size + 3 ≤ W.heap.size
  below : Below w.heap.size w W
theorem Fx.drew {w W : World} (h : Fx w W) : Fx w W.drew := ⟨h.size, h.below.drew⟩
theorem Fx.next {w W W' : World} (h : Fx w W) (hb : Below W.heap.size W W') : Fx w W' :=
  ⟨Nat.le_trans h.size hb.size, h.below.trans (hb.mono (by have := h.size; omega))⟩
/-- The fifteen cells of three boxes. -/
def Cells15 (w W : World) (ka ia ta : Int) (sa : ByteArray) (Aa : Option Addr) (na ca : Nat) (kb ib tb : Int) (sb : ByteArray) (Ab : Option Addr) (nb cb : Nat) (kc ic tc : Int) (sc : ByteArray) (Ac : Option Addr) (nc cc : Nat) : Prop :=
  W.cell? ⟨w.heap.size, 0, none⟩ = some (.int .i64 ka) ∧ W.cell? ⟨w.heap.size, 1, none⟩ = some (.int .i64 ia) ∧ W.cell? ⟨w.heap.size, 2, none⟩ = some (.int .i64 ta) ∧ W.cell? ⟨w.heap.size, 3, none⟩ = some (.string sa) ∧ W.cell? ⟨w.heap.size, 4, none⟩ = some (.slice Aa na ca) ∧ W.cell? ⟨w.heap.size + 1, 0, none⟩ = some (.int .i64 kb) ∧ W.cell? ⟨w.heap.size + 1, 1, none⟩ = some (.int .i64 ib) ∧ W.cell? ⟨w.heap.size + 1, 2, none⟩ = some (.int .i64 tb) ∧ W.cell? ⟨w.heap.size + 1, 3, none⟩ = some (.string sb) ∧ W.cell? ⟨w.heap.size + 1, 4, none⟩ = some (.slice Ab nb cb) ∧ W.cell? ⟨w.heap.size + 1 + 1, 0, none⟩ = some (.int .i64 kc) ∧ W.cell? ⟨w.heap.size + 1 + 1, 1, none⟩ = some (.int .i64 ic) ∧ W.cell? ⟨w.heap.size + 1 + 1, 2, none⟩ = some (.int .i64 tc) ∧ W.cell? ⟨w.heap.size + 1 + 1, 3, none⟩ = some (.string sc) ∧ W.cell? ⟨w.heap.size + 1 + 1, 4, none⟩ = some (.slice Ac nc cc)
theorem Cells15.keep {w W W' : World} {ka ia ta : Int} {sa : ByteArray} {Aa : Option Addr} {na ca : Nat} {kb ib tb : Int} {sb : ByteArray} {Ab : Option Addr} {nb cb : Nat} {kc ic tc : Int} {sc : ByteArray} {Ac : Option Addr} {nc cc : Nat} (k : Cells15 w W ka ia ta sa Aa na ca kb ib tb sb Ab nb cb kc ic tc sc Ac nc cc) (hs : w.heap.size + 3 ≤ W.heap.size) (hb : Below W.heap.size W W') :
    Cells15 w W' ka ia ta sa Aa na ca kb ib tb sb Ab nb cb kc ic tc sc Ac nc cc := by
  have q : ∀ (b o : Nat), b < w.heap.size + 3 → W'.cell? ⟨b, o, none⟩ = W.cell? ⟨b, o, none⟩ := fun b o h => hb.cell (p := ⟨b, o, none⟩) (by show b < _; omega)
  unfold Cells15 at k ⊢
  simpa only [q _ _ (show w.heap.size < w.heap.size + 3 by omega), q _ _ (show w.heap.size + 1 < w.heap.size + 3 by omega), q _ _ (show w.heap.size + 1 + 1 < w.heap.size + 3 by omega)] using k
theorem start15 (w : World) {ka ia ta : Int} {sa : ByteArray} {Aa : Option Addr} {na ca : Nat} {kb ib tb : Int} {sb : ByteArray} {Ab : Option Addr} {nb cb : Nat} {kc ic tc : Int} {sc : ByteArray} {Ac : Option Addr} {nc cc : Nat} {T : TypeId} : Fx w (((w.alloc (.cells #[.int .i64 ka, .int .i64 ia, .int .i64 ta, .string sa, .slice Aa na ca] T)).alloc (.cells #[.int .i64 kb, .int .i64 ib, .int .i64 tb, .string sb, .slice Ab nb cb] T)).alloc (.cells #[.int .i64 kc, .int .i64 ic, .int .i64 tc, .string sc, .slice Ac nc cc] T)) := by
  refine ⟨by simp, (((Below.refl _ _).alloc (Nat.le_refl _) _).alloc (by simp) _).alloc (by simp; omega) _⟩
theorem third (w : World) (o o' o'' : Obj) : (((w.alloc o).alloc o').alloc o'').heap[w.heap.size]? = some o ∧ (((w.alloc o).alloc o').alloc o'').heap[w.heap.size + 1]? = some o' ∧ (((w.alloc o).alloc o').alloc o'').heap[w.heap.size + 1 + 1]? = some o'' := by
  refine ⟨?_, ?_, ?_⟩
  · exact (Below.heap_alloc ((w.alloc o).alloc o') o'' w.heap.size (by simp; omega)).trans (heap_first w o o')
  · exact (Below.heap_alloc ((w.alloc o).alloc o') o'' (w.heap.size + 1) (by simp)).trans (heap_second w o o')
  · have := heap_new ((w.alloc o).alloc o') o''
    simpa using this
theorem cells15 (w : World) {ka ia ta : Int} {sa : ByteArray} {Aa : Option Addr} {na ca : Nat} {kb ib tb : Int} {sb : ByteArray} {Ab : Option Addr} {nb cb : Nat} {kc ic tc : Int} {sc : ByteArray} {Ac : Option Addr} {nc cc : Nat} {T : TypeId} : ∃ W, W = (((w.alloc (.cells #[.int .i64 ka, .int .i64 ia, .int .i64 ta, .string sa, .slice Aa na ca] T)).alloc (.cells #[.int .i64 kb, .int .i64 ib, .int .i64 tb, .string sb, .slice Ab nb cb] T)).alloc (.cells #[.int .i64 kc, .int .i64 ic, .int .i64 tc, .string sc, .slice Ac nc cc] T)) ∧ Fx w W ∧ Cells15 w W ka ia ta sa Aa na ca kb ib tb sb Ab nb cb kc ic tc sc Ac nc cc := by
  refine ⟨_, rfl, start15 w, ?_⟩
  obtain ⟨h0, h1, h2⟩ := third w (.cells #[.int .i64 ka, .int .i64 ia, .int .i64 ta, .string sa, .slice Aa na ca] T) (.cells #[.int .i64 kb, .int .i64 ib, .int .i64 tb, .string sb, .slice Ab nb cb] T) (.cells #[.int .i64 kc, .int .i64 ic, .int .i64 tc, .string sc, .slice Ac nc cc] T)
  exact ⟨cell_of_heap h0 0, cell_of_heap h0 1, cell_of_heap h0 2, cell_of_heap h0 3, cell_of_heap h0 4, cell_of_heap h1 0, cell_of_heap h1 1, cell_of_heap h1 2, cell_of_heap h1 3, cell_of_heap h1 4, cell_of_heap h2 0, cell_of_heap h2 1, cell_of_heap h2 2, cell_of_heap h2 3, cell_of_heap h2 4⟩

theorem cmp_in (x y : V) (g g' : Value) (w W : World) (z : Int) (hx : VAt w w.heap.size x g) (hy : VAt w w.heap.size y g') (f : Fx w W) (hs : sizeV x ≤ 2000000) (hz : z = cmpV x y) :
    Calls Try.prog 4 #[g, g'] W fun e w' => e = .returned (.int .i64 z) ∧ Below W.heap.size W w' ∧ Fx w w' := by
  refine (compare_any x y g g' w.heap.size W (hx.below f.below (Nat.le_refl _)) (hy.below f.below (Nat.le_refl _)) f.below.size hs).mono ?_
  rintro e w' ⟨rfl, hb⟩
  exact ⟨by rw [hz], hb, f.next hb⟩
theorem cmpOf_in (x y : V) (g g' : Value) (w W : World) (z : Int) (hx : VAt w w.heap.size x g) (hy : VAt w w.heap.size y g') (f : Fx w W) (hz : z = cmpV x y) :
    Calls Try.prog 5 #[g, g'] W fun e w' => e = .returned (.int .i64 z) ∧ Below W.heap.size W w' ∧ Fx w w' := by
  refine (compareOf_any x y g g' w.heap.size W (hx.below f.below (Nat.le_refl _)) (hy.below f.below (Nat.le_refl _)) f.below.size).mono ?_
  rintro e w' ⟨rfl, hb⟩
  exact ⟨by rw [hz], hb, f.next hb⟩

theorem in_low {k kl c : Int} : kl = 0 ∨ (kl ≠ 0 ∧ kl ≠ k) ∨ (kl ≠ 0 ∧ kl = k ∧ c < 0) ∨ (kl ≠ 0 ∧ kl = k ∧ 0 ≤ c) := by omega
theorem in_high {k kl c : Int} : kl = 0 ∨ (kl ≠ 0 ∧ kl ≠ k) ∨ (kl ≠ 0 ∧ kl = k ∧ 0 < c) ∨ (kl ≠ 0 ∧ kl = k ∧ c ≤ 0) := by omega

set_option maxHeartbeats 4000000 in
set_option maxRecDepth 100000 in
theorem in_any (a b c : V) (ga gb gc : Value) (w : World) (ha : VAt w w.heap.size a ga) (hb : VAt w w.heap.size b gb) (hc : VAt w w.heap.size c gc) (za : sizeV a ≤ 2000000) :
    Calls Try.prog 6 #[ga, gb, gc] w (SaysB (inB a b c) w) := by
  have HA := Lib.hid ha
  have HB := Lib.hid hb
  have HC := Lib.hid hc
  obtain ⟨x, hx⟩ : ∃ x, x = cmpV a b := ⟨_, rfl⟩
  obtain ⟨y, hy⟩ : ∃ y, y = cmpV a c := ⟨_, rfl⟩
  obtain ⟨r, hr⟩ : ∃ r, r = inB a b c := ⟨_, rfl⟩
  rw [← hr]
  unfold inB lowOk highOk at hr
  rw [← hx, ← hy] at hr
  have HX := Lib.hid hx
  have HY := Lib.hid hy
  clear hx hy
  obtain ⟨ka, ia, ta, sa, la⟩ := a
  obtain ⟨kb, ib, tb, sb, lb⟩ := b
  obtain ⟨kc, ic, tc, sc, lc⟩ := c
  simp only [V.kind] at hr
  obtain ⟨sla, rfl, Aa, ca, rfl, -⟩ := ha
  obtain ⟨slb, rfl, Ab, cb, rfl, -⟩ := hb
  obtain ⟨slc, rfl, Ac, cc, rfl, -⟩ := hc
  obtain ⟨na, hna⟩ : ∃ n, n = la.length := ⟨_, rfl⟩
  obtain ⟨nb, hnb⟩ : ∃ n, n = lb.length := ⟨_, rfl⟩
  obtain ⟨nc, hnc⟩ : ∃ n, n = lc.length := ⟨_, rfl⟩
  rw [← hna] at HA ⊢
  rw [← hnb] at HB ⊢
  rw [← hnc] at HC ⊢
  clear hna hnb hnc
  obtain ⟨W0, hW0, f0, k0⟩ := cells15 w (T := 24) (ka := ka) (ia := ia) (ta := ta) (sa := sa) (Aa := Aa) (na := na) (ca := ca) (kb := kb) (ib := ib) (tb := tb) (sb := sb) (Ab := Ab) (nb := nb) (cb := cb) (kc := kc) (ic := ic) (tc := tc) (sc := sc) (Ac := Ac) (nc := nc) (cc := cc)
  have F0 := Lib.hid f0
  have K0 := Lib.hid k0
  have HW0 := Lib.hid hW0
  clear f0 k0 hW0
  rcases (in_low (k := ka) (kl := kb) (c := x)) with l0 | ⟨l0, l1⟩ | ⟨l0, l1, l2⟩ | ⟨l0, l1, l2⟩
  · -- no lower bound
    subst l0
    rcases (in_high (k := ka) (kl := kc) (c := y)) with h0 | ⟨h0, h1⟩ | ⟨h0, h1, h2⟩ | ⟨h0, h1, h2⟩
    · subst h0
      have HR : Hid (r = true) := Lib.hid (by rw [hr]; rfl)
      clear hr
      go_enter Try.func6, Try.ntmps6
      go_wp2_with fail
      go_ret
      rw [← HW0.out]
      exact ⟨by rw [HR.out]; rfl, F0.out.below⟩
    · have HR : Hid (r = false) := Lib.hid (by rw [hr]; simp [h0, h1])
      have p1 : (kc != 0) = true := by simpa using h0
      have p2 : (kc != ka) = true := by simpa using h1
      clear hr h0 h1
      go_enter Try.func6, Try.ntmps6
      go_wp2_with fail
      go_ret
      rw [← HW0.out]
      exact ⟨by rw [HR.out]; rfl, F0.out.below⟩
    all_goals
      have p1 : (kc != 0) = true := by simpa using h0
      have p2 : (kc != ka) = false := by simpa using h1
      subst h1
    · have HR : Hid (r = false) := Lib.hid (by rw [hr]; simp [h0]; omega)
      clear hr h0
      go_enter Try.func6, Try.ntmps6
      go_wp2_with fail
      rw [← HW0.out]
      with_reducible refine (cmp_in _ _ _ _ w _ y HA.out HC.out F0.out za HY.out).mono ?_
      rintro e w1 ⟨rfl, -, F1⟩
      have F1 := Lib.hid F1
      go_wp2_with fail
      go_ret
      exact ⟨by rw [HR.out]; rfl, F1.out.below⟩
    · have HR : Hid (r = true) := Lib.hid (by rw [hr]; simp; omega)
      clear hr h0
      go_enter Try.func6, Try.ntmps6
      go_wp2_with fail
      rw [← HW0.out]
      with_reducible refine (cmp_in _ _ _ _ w _ y HA.out HC.out F0.out za HY.out).mono ?_
      rintro e w1 ⟨rfl, -, F1⟩
      have F1 := Lib.hid F1
      go_wp2_with fail
      go_ret
      exact ⟨by rw [HR.out]; rfl, F1.out.below⟩
  · -- another kind than the lower bound
    have HR : Hid (r = false) := Lib.hid (by rw [hr]; simp [l0, l1])
    have p1 : (kb != 0) = true := by simpa using l0
    have p2 : (kb != ka) = true := by simpa using l1
    clear hr l0 l1
    go_enter Try.func6, Try.ntmps6
    go_wp2_with fail
    go_ret
    rw [← HW0.out]
    exact ⟨by rw [HR.out]; rfl, F0.out.below⟩
  all_goals
    have p1 : (kb != 0) = true := by simpa using l0
    have p2 : (kb != ka) = false := by simpa using l1
  · subst l1
    have HR : Hid (r = false) := Lib.hid (by rw [hr]; simp [l0]; omega)
    clear hr l0
    go_enter Try.func6, Try.ntmps6
    go_wp2_with fail
    rw [← HW0.out]
    with_reducible refine (cmp_in _ _ _ _ w _ x HA.out HB.out F0.out za HX.out).mono ?_
    rintro e w1 ⟨rfl, -, F1⟩
    have F1 := Lib.hid F1
    go_wp2_with fail
    go_ret
    exact ⟨by rw [HR.out]; rfl, F1.out.below⟩
  · rcases (in_high (k := ka) (kl := kc) (c := y)) with h0 | ⟨h0, h1⟩ | ⟨h0, h1, h2⟩ | ⟨h0, h1, h2⟩
    · subst l1
      subst h0
      have HR : Hid (r = true) := Lib.hid (by rw [hr]; simp; omega)
      clear hr l0
      go_enter Try.func6, Try.ntmps6
      go_wp2_with fail
      rw [← HW0.out]
      with_reducible refine (cmp_in _ _ _ _ w _ x HA.out HB.out F0.out za HX.out).mono ?_
      rintro e w1 ⟨rfl, hb1, F1⟩
      obtain ⟨g1, g2, g3, g4, g5, g6, g7, g8, g9, g10, g11, g12, g13, g14, g15⟩ := K0.out.keep F0.out.size hb1
      have F1 := Lib.hid F1
      clear hb1
      go_wp2_with fail
      go_ret
      exact ⟨by rw [HR.out]; rfl, F1.out.below⟩
    · have HR : Hid (r = false) := Lib.hid (by rw [hr]; simp [h0, h1])
      have p3 : (kc != 0) = true := by simpa using h0
      have p4 : (kc != ka) = true := by simpa using h1
      subst l1
      clear hr l0 h0 h1
      go_enter Try.func6, Try.ntmps6
      go_wp2_with fail
      rw [← HW0.out]
      with_reducible refine (cmp_in _ _ _ _ w _ x HA.out HB.out F0.out za HX.out).mono ?_
      rintro e w1 ⟨rfl, hb1, F1⟩
      obtain ⟨g1, g2, g3, g4, g5, g6, g7, g8, g9, g10, g11, g12, g13, g14, g15⟩ := K0.out.keep F0.out.size hb1
      have F1 := Lib.hid F1
      clear hb1
      go_wp2_with fail
      go_ret
      exact ⟨by rw [HR.out]; rfl, F1.out.below⟩
    · have HR : Hid (r = false) := Lib.hid (by rw [hr]; simp [h0, h1, l1]; omega)
      have p3 : (kc != 0) = true := by simpa using h0
      have p4 : (kc != ka) = false := by simpa using h1
      subst l1
      subst h1
      clear hr l0 h0
      go_enter Try.func6, Try.ntmps6
      go_wp2_with fail
      rw [← HW0.out]
      with_reducible refine (cmp_in _ _ _ _ w _ x HA.out HB.out F0.out za HX.out).mono ?_
      rintro e w1 ⟨rfl, hb1, F1⟩
      obtain ⟨g1, g2, g3, g4, g5, g6, g7, g8, g9, g10, g11, g12, g13, g14, g15⟩ := K0.out.keep F0.out.size hb1
      have F1 := Lib.hid F1
      clear hb1
      go_wp2_with fail
      with_reducible refine (cmp_in _ _ _ _ w _ y HA.out HC.out F1.out za HY.out).mono ?_
      rintro e w2 ⟨rfl, -, F2⟩
      have F2 := Lib.hid F2
      go_wp2_with fail
      go_ret
      exact ⟨by rw [HR.out]; rfl, F2.out.below⟩
    · have HR : Hid (r = true) := Lib.hid (by rw [hr]; simp [h1, l1]; omega)
      have p3 : (kc != 0) = true := by simpa using h0
      have p4 : (kc != ka) = false := by simpa using h1
      subst l1
      subst h1
      clear hr l0 h0
      go_enter Try.func6, Try.ntmps6
      go_wp2_with fail
      rw [← HW0.out]
      with_reducible refine (cmp_in _ _ _ _ w _ x HA.out HB.out F0.out za HX.out).mono ?_
      rintro e w1 ⟨rfl, hb1, F1⟩
      obtain ⟨g1, g2, g3, g4, g5, g6, g7, g8, g9, g10, g11, g12, g13, g14, g15⟩ := K0.out.keep F0.out.size hb1
      have F1 := Lib.hid F1
      clear hb1
      go_wp2_with fail
      with_reducible refine (cmp_in _ _ _ _ w _ y HA.out HC.out F1.out za HY.out).mono ?_
      rintro e w2 ⟨rfl, -, F2⟩
      have F2 := Lib.hid F2
      go_wp2_with fail
      go_ret
      exact ⟨by rw [HR.out]; rfl, F2.out.below⟩
end Go.Proofs.Ytkidjhdfpdecoaa.Vl
