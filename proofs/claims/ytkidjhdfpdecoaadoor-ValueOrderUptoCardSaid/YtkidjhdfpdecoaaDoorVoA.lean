/- The order's law. -/
import Derived.Test.YtkidjhdfpdecoaaDoorValD
import Derived.Test.YtkidjhdfpdecoaaDoorCalE
import Derived.WalkKit
import Derived.Lib.Hide
import Derived.Below
import Derived.Deep.RegionHeld3
namespace Go.Proofs.YtkidjhdfpdecoaaDoor.Vl
open Go.RowKit
open Go.Proofs.YtkidjhdfpdecoaaDoor.Vals

/-- What the law asks of the five answers. -/
theorem order_says (a b c : V) : cmpV b a = - cmpV a b ∧ cmpV a a = 0 ∧ (cmpV a b ≤ 0 → cmpV b c ≤ 0 → cmpV a c ≤ 0 ∧ (cmpV a c < 0 ∨ (cmpV a b = 0 ∧ cmpV b c = 0))) :=
  ⟨cmpV_anti a b, cmpV_self a, cmpV_tr a b c⟩
/-- A world in which three boxes have been made. -/
structure Fx (w W : World) : Prop where
  size : w.heap.size + 3 ≤ W.heap.size
  below : Below w.heap.size w W
theorem Fx.drew {w W : World} (h : Fx w W) : Fx w W.drew := ⟨h.size, h.below.drew⟩
theorem Fx.next {w W W' : World} (h : Fx w W) (hb : Below W.heap.size W W') : Fx w W' :=
  ⟨Nat.le_trans h.size hb.size, h.below.trans (hb.mono (by have := h.size; omega))⟩
theorem keep15 {w W W' : World} {ka ia ta : Int} {sa : ByteArray} {Aa : Option Addr} {na ca : Nat} {kb ib tb : Int} {sb : ByteArray} {Ab : Option Addr} {nb cb : Nat} {kc ic tc : Int} {sc : ByteArray} {Ac : Option Addr} {nc cc : Nat} (k : W.cell? ⟨w.heap.size, 0, none⟩ = some (.int .i64 ka) ∧ W.cell? ⟨w.heap.size, 1, none⟩ = some (.int .i64 ia) ∧ W.cell? ⟨w.heap.size, 2, none⟩ = some (.int .i64 ta) ∧ W.cell? ⟨w.heap.size, 3, none⟩ = some (.string sa) ∧ W.cell? ⟨w.heap.size, 4, none⟩ = some (.slice Aa na ca) ∧ W.cell? ⟨w.heap.size + 1, 0, none⟩ = some (.int .i64 kb) ∧ W.cell? ⟨w.heap.size + 1, 1, none⟩ = some (.int .i64 ib) ∧ W.cell? ⟨w.heap.size + 1, 2, none⟩ = some (.int .i64 tb) ∧ W.cell? ⟨w.heap.size + 1, 3, none⟩ = some (.string sb) ∧ W.cell? ⟨w.heap.size + 1, 4, none⟩ = some (.slice Ab nb cb) ∧ W.cell? ⟨w.heap.size + 1 + 1, 0, none⟩ = some (.int .i64 kc) ∧ W.cell? ⟨w.heap.size + 1 + 1, 1, none⟩ = some (.int .i64 ic) ∧ W.cell? ⟨w.heap.size + 1 + 1, 2, none⟩ = some (.int .i64 tc) ∧ W.cell? ⟨w.heap.size + 1 + 1, 3, none⟩ = some (.string sc) ∧ W.cell? ⟨w.heap.size + 1 + 1, 4, none⟩ = some (.slice Ac nc cc)) (hb : w.heap.size + 3 ≤ W.heap.size ∧ Below W.heap.size W W') :
    W'.cell? ⟨w.heap.size, 0, none⟩ = some (.int .i64 ka) ∧ W'.cell? ⟨w.heap.size, 1, none⟩ = some (.int .i64 ia) ∧ W'.cell? ⟨w.heap.size, 2, none⟩ = some (.int .i64 ta) ∧ W'.cell? ⟨w.heap.size, 3, none⟩ = some (.string sa) ∧ W'.cell? ⟨w.heap.size, 4, none⟩ = some (.slice Aa na ca) ∧ W'.cell? ⟨w.heap.size + 1, 0, none⟩ = some (.int .i64 kb) ∧ W'.cell? ⟨w.heap.size + 1, 1, none⟩ = some (.int .i64 ib) ∧ W'.cell? ⟨w.heap.size + 1, 2, none⟩ = some (.int .i64 tb) ∧ W'.cell? ⟨w.heap.size + 1, 3, none⟩ = some (.string sb) ∧ W'.cell? ⟨w.heap.size + 1, 4, none⟩ = some (.slice Ab nb cb) ∧ W'.cell? ⟨w.heap.size + 1 + 1, 0, none⟩ = some (.int .i64 kc) ∧ W'.cell? ⟨w.heap.size + 1 + 1, 1, none⟩ = some (.int .i64 ic) ∧ W'.cell? ⟨w.heap.size + 1 + 1, 2, none⟩ = some (.int .i64 tc) ∧ W'.cell? ⟨w.heap.size + 1 + 1, 3, none⟩ = some (.string sc) ∧ W'.cell? ⟨w.heap.size + 1 + 1, 4, none⟩ = some (.slice Ac nc cc) := by
  have := hb.1
  have q : ∀ (b o : Nat), b < w.heap.size + 3 → W'.cell? ⟨b, o, none⟩ = W.cell? ⟨b, o, none⟩ := fun b o h => hb.2.cell (p := ⟨b, o, none⟩) (by show b < _; omega)
  simpa only [q _ _ (show w.heap.size < w.heap.size + 3 by omega), q _ _ (show w.heap.size + 1 < w.heap.size + 3 by omega), q _ _ (show w.heap.size + 1 + 1 < w.heap.size + 3 by omega)] using k
theorem start15 (w : World) {ka ia ta : Int} {sa : ByteArray} {Aa : Option Addr} {na ca : Nat} {kb ib tb : Int} {sb : ByteArray} {Ab : Option Addr} {nb cb : Nat} {kc ic tc : Int} {sc : ByteArray} {Ac : Option Addr} {nc cc : Nat} {T : TypeId} : Fx w (((w.alloc (.cells #[.int .i64 ka, .int .i64 ia, .int .i64 ta, .string sa, .slice Aa na ca] T)).alloc (.cells #[.int .i64 kb, .int .i64 ib, .int .i64 tb, .string sb, .slice Ab nb cb] T)).alloc (.cells #[.int .i64 kc, .int .i64 ic, .int .i64 tc, .string sc, .slice Ac nc cc] T)) := by
  refine ⟨by simp, (((Below.refl _ _).alloc (Nat.le_refl _) _).alloc (by simp) _).alloc (by simp; omega) _⟩

theorem third (w : World) (o o' o'' : Obj) : (((w.alloc o).alloc o').alloc o'').heap[w.heap.size]? = some o ∧ (((w.alloc o).alloc o').alloc o'').heap[w.heap.size + 1]? = some o' ∧ (((w.alloc o).alloc o').alloc o'').heap[w.heap.size + 1 + 1]? = some o'' := by
  refine ⟨?_, ?_, ?_⟩
  · exact (Below.heap_alloc ((w.alloc o).alloc o') o'' w.heap.size (by simp; omega)).trans (heap_first w o o')
  · exact (Below.heap_alloc ((w.alloc o).alloc o') o'' (w.heap.size + 1) (by simp)).trans (heap_second w o o')
  · have := heap_new ((w.alloc o).alloc o') o''
    simpa using this
theorem cells15 (w : World) {ka ia ta : Int} {sa : ByteArray} {Aa : Option Addr} {na ca : Nat} {kb ib tb : Int} {sb : ByteArray} {Ab : Option Addr} {nb cb : Nat} {kc ic tc : Int} {sc : ByteArray} {Ac : Option Addr} {nc cc : Nat} {T : TypeId} : ∃ W, W = (((w.alloc (.cells #[.int .i64 ka, .int .i64 ia, .int .i64 ta, .string sa, .slice Aa na ca] T)).alloc (.cells #[.int .i64 kb, .int .i64 ib, .int .i64 tb, .string sb, .slice Ab nb cb] T)).alloc (.cells #[.int .i64 kc, .int .i64 ic, .int .i64 tc, .string sc, .slice Ac nc cc] T)) ∧ Fx w W ∧ W.cell? ⟨w.heap.size, 0, none⟩ = some (.int .i64 ka) ∧ W.cell? ⟨w.heap.size, 1, none⟩ = some (.int .i64 ia) ∧ W.cell? ⟨w.heap.size, 2, none⟩ = some (.int .i64 ta) ∧ W.cell? ⟨w.heap.size, 3, none⟩ = some (.string sa) ∧ W.cell? ⟨w.heap.size, 4, none⟩ = some (.slice Aa na ca) ∧ W.cell? ⟨w.heap.size + 1, 0, none⟩ = some (.int .i64 kb) ∧ W.cell? ⟨w.heap.size + 1, 1, none⟩ = some (.int .i64 ib) ∧ W.cell? ⟨w.heap.size + 1, 2, none⟩ = some (.int .i64 tb) ∧ W.cell? ⟨w.heap.size + 1, 3, none⟩ = some (.string sb) ∧ W.cell? ⟨w.heap.size + 1, 4, none⟩ = some (.slice Ab nb cb) ∧ W.cell? ⟨w.heap.size + 1 + 1, 0, none⟩ = some (.int .i64 kc) ∧ W.cell? ⟨w.heap.size + 1 + 1, 1, none⟩ = some (.int .i64 ic) ∧ W.cell? ⟨w.heap.size + 1 + 1, 2, none⟩ = some (.int .i64 tc) ∧ W.cell? ⟨w.heap.size + 1 + 1, 3, none⟩ = some (.string sc) ∧ W.cell? ⟨w.heap.size + 1 + 1, 4, none⟩ = some (.slice Ac nc cc) := by
  refine ⟨_, rfl, start15 w, ?_⟩
  obtain ⟨h0, h1, h2⟩ := third w (.cells #[.int .i64 ka, .int .i64 ia, .int .i64 ta, .string sa, .slice Aa na ca] T) (.cells #[.int .i64 kb, .int .i64 ib, .int .i64 tb, .string sb, .slice Ab nb cb] T) (.cells #[.int .i64 kc, .int .i64 ic, .int .i64 tc, .string sc, .slice Ac nc cc] T)
  exact ⟨cell_of_heap h0 0, cell_of_heap h0 1, cell_of_heap h0 2, cell_of_heap h0 3, cell_of_heap h0 4, cell_of_heap h1 0, cell_of_heap h1 1, cell_of_heap h1 2, cell_of_heap h1 3, cell_of_heap h1 4, cell_of_heap h2 0, cell_of_heap h2 1, cell_of_heap h2 2, cell_of_heap h2 3, cell_of_heap h2 4⟩

theorem cmp_in (x y : V) (g g' : Value) (w W : World) (z : Int) (hx : VAt w w.heap.size x g) (hy : VAt w w.heap.size y g') (f : Fx w W) (hs : sizeV x ≤ 2000000) (hz : z = cmpV x y) :
    Calls Tryd.prog 24 #[g, g'] W fun e w' => e = .returned (.int .i64 z) ∧ (w.heap.size + 3 ≤ W.heap.size ∧ Below W.heap.size W w') ∧ Hid (Fx w w') := by
  refine (compare_any x y g g' w.heap.size W (hx.below f.below (Nat.le_refl _)) (hy.below f.below (Nat.le_refl _)) f.below.size hs).mono ?_
  rintro e w' ⟨rfl, hb⟩
  exact ⟨by rw [hz], ⟨f.size, hb⟩, Lib.hid (f.next hb)⟩

set_option maxHeartbeats 4000000 in
set_option maxRecDepth 100000 in
theorem valueOrder_any (a b c : V) (ga gb gc : Value) (w : World) (ht : Tab w) (ha : VAt w w.heap.size a ga) (hb : VAt w w.heap.size b gb) (hc : VAt w w.heap.size c gc)
    (za : sizeV a ≤ 2000000) (zb : sizeV b ≤ 2000000) :
    Calls Tryd.prog 5 #[ga, gb, gc] w fun e w' => e = .returned (.bool true) ∧ Below w.heap.size w w' := by
  have HT := Lib.hid ht
  have HA := Lib.hid ha
  have HB := Lib.hid hb
  have HC := Lib.hid hc
  obtain ⟨x, hx⟩ : ∃ x, x = cmpV a b := ⟨_, rfl⟩
  obtain ⟨y, hy⟩ : ∃ y, y = cmpV b c := ⟨_, rfl⟩
  obtain ⟨z, hz⟩ : ∃ z, z = cmpV a c := ⟨_, rfl⟩
  obtain ⟨p1, p2, p3⟩ := order_says a b c
  have bx := cmpV_bd a b
  have bY := cmpV_bd b c
  have bz := cmpV_bd a c
  rw [← hx, ← hy, ← hz] at p3
  rw [← hx] at p1 bx
  rw [← hy] at bY
  rw [← hz] at bz
  have HX := Lib.hid hx
  have HY := Lib.hid hy
  have HZ := Lib.hid hz
  have P1 := Lib.hid p1
  have P2 := Lib.hid p2
  have P3 := Lib.hid p3
  obtain ⟨ka, ia, ta, sa, la⟩ := a
  obtain ⟨kb, ib, tb, sb, lb⟩ := b
  obtain ⟨kc, ic, tc, sc, lc⟩ := c
  obtain ⟨sla, rfl, Aa, ca, rfl, -⟩ := ha
  obtain ⟨slb, rfl, Ab, cb, rfl, -⟩ := hb
  obtain ⟨slc, rfl, Ac, cc, rfl, -⟩ := hc
  obtain ⟨na, hna⟩ : ∃ n, n = la.length := ⟨_, rfl⟩
  obtain ⟨nb, hnb⟩ : ∃ n, n = lb.length := ⟨_, rfl⟩
  obtain ⟨nc, hnc⟩ : ∃ n, n = lc.length := ⟨_, rfl⟩
  rw [← hna] at HA ⊢
  rw [← hnb] at HB ⊢
  rw [← hnc] at HC ⊢
  clear ht hx hy hz p1 p2 p3 hna hnb hnc
  go_enter Tryd.func5, Tryd.ntmps5
  go_wp2_with fail
  refine (awakeProp_any _ ?_).mono ?_
  · intro i hi
    exact ((start15 w).below.cell (p := ⟨0, i, none⟩) (World.block_lt_of_cell? w _ (HT.out i hi))).trans (HT.out i hi)
  rintro e w' ⟨rfl, rfl⟩
  go_wp2_with fail
  obtain ⟨W0, hW0, f0, g1, g2, g3, g4, g5, g6, g7, g8, g9, g10, g11, g12, g13, g14, g15⟩ := cells15 w (T := 49) (ka := ka) (ia := ia) (ta := ta) (sa := sa) (Aa := Aa) (na := na) (ca := ca) (kb := kb) (ib := ib) (tb := tb) (sb := sb) (Ab := Ab) (nb := nb) (cb := cb) (kc := kc) (ic := ic) (tc := tc) (sc := sc) (Ac := Ac) (nc := nc) (cc := cc)
  rw [← hW0]
  clear hW0
  have F0 := Lib.hid f0.drew
  clear f0
  go_region_held3 (fun W => W.cell? ⟨w.heap.size, 0, none⟩ = some (.int .i64 ka) ∧ W.cell? ⟨w.heap.size, 1, none⟩ = some (.int .i64 ia) ∧ W.cell? ⟨w.heap.size, 2, none⟩ = some (.int .i64 ta) ∧ W.cell? ⟨w.heap.size, 3, none⟩ = some (.string sa) ∧ W.cell? ⟨w.heap.size, 4, none⟩ = some (.slice Aa na ca) ∧ W.cell? ⟨w.heap.size + 1, 0, none⟩ = some (.int .i64 kb) ∧ W.cell? ⟨w.heap.size + 1, 1, none⟩ = some (.int .i64 ib) ∧ W.cell? ⟨w.heap.size + 1, 2, none⟩ = some (.int .i64 tb) ∧ W.cell? ⟨w.heap.size + 1, 3, none⟩ = some (.string sb) ∧ W.cell? ⟨w.heap.size + 1, 4, none⟩ = some (.slice Ab nb cb) ∧ W.cell? ⟨w.heap.size + 1 + 1, 0, none⟩ = some (.int .i64 kc) ∧ W.cell? ⟨w.heap.size + 1 + 1, 1, none⟩ = some (.int .i64 ic) ∧ W.cell? ⟨w.heap.size + 1 + 1, 2, none⟩ = some (.int .i64 tc) ∧ W.cell? ⟨w.heap.size + 1 + 1, 3, none⟩ = some (.string sc) ∧ W.cell? ⟨w.heap.size + 1 + 1, 4, none⟩ = some (.slice Ac nc cc))
    (first
      | exact keep15 (by assumption) hb
      | exact ⟨g1, g2, g3, g4, g5, g6, g7, g8, g9, g10, g11, g12, g13, g14, g15⟩)
    (first
      | (go_at_call 24; with_reducible refine (cmp_in (.mk ka ia ta sa la) (.mk kb ib tb sb lb) _ _ w _ x HA.out HB.out F0.out za HX.out).mono ?_; rintro e w1 ⟨rfl, hb, F0⟩)
      | (go_at_call 24; with_reducible refine (cmp_in (.mk kb ib tb sb lb) (.mk kc ic tc sc lc) _ _ w _ y HB.out HC.out F0.out zb HY.out).mono ?_; rintro e w1 ⟨rfl, hb, F0⟩)
      | (go_at_call 24; with_reducible refine (cmp_in (.mk ka ia ta sa la) (.mk kc ic tc sc lc) _ _ w _ z HA.out HC.out F0.out za HZ.out).mono ?_; rintro e w1 ⟨rfl, hb, F0⟩))
  clear g1 g2 g3 g4 g5 g6 g7 g8 g9 g10 g11 g12 g13 g14 g15 hb
  have hS : w1.cell? ⟨w.heap.size, 0, none⟩ = some (.int .i64 ka) ∧ w1.cell? ⟨w.heap.size, 1, none⟩ = some (.int .i64 ia) ∧ w1.cell? ⟨w.heap.size, 2, none⟩ = some (.int .i64 ta) ∧ w1.cell? ⟨w.heap.size, 3, none⟩ = some (.string sa) ∧ w1.cell? ⟨w.heap.size, 4, none⟩ = some (.slice Aa na ca) ∧ w1.cell? ⟨w.heap.size + 1, 0, none⟩ = some (.int .i64 kb) ∧ w1.cell? ⟨w.heap.size + 1, 1, none⟩ = some (.int .i64 ib) ∧ w1.cell? ⟨w.heap.size + 1, 2, none⟩ = some (.int .i64 tb) ∧ w1.cell? ⟨w.heap.size + 1, 3, none⟩ = some (.string sb) ∧ w1.cell? ⟨w.heap.size + 1, 4, none⟩ = some (.slice Ab nb cb) ∧ w1.cell? ⟨w.heap.size + 1 + 1, 0, none⟩ = some (.int .i64 kc) ∧ w1.cell? ⟨w.heap.size + 1 + 1, 1, none⟩ = some (.int .i64 ic) ∧ w1.cell? ⟨w.heap.size + 1 + 1, 2, none⟩ = some (.int .i64 tc) ∧ w1.cell? ⟨w.heap.size + 1 + 1, 3, none⟩ = some (.string sc) ∧ w1.cell? ⟨w.heap.size + 1 + 1, 4, none⟩ = some (.slice Ac nc cc) := by assumption
  have hx3 : x = -1 ∨ x = 0 ∨ x = 1 := by omega
  have hy3 : y = -1 ∨ y = 0 ∨ y = 1 := by omega
  have hz3 : z = -1 ∨ z = 0 ∨ z = 1 := by omega
  have hP1 : Hid (-x = cmpV (.mk kb ib tb sb lb) (.mk ka ia ta sa la)) := Lib.hid P1.out.symm
  have hP2 : Hid (0 = cmpV (.mk ka ia ta sa la) (.mk ka ia ta sa la)) := Lib.hid P2.out.symm
  have wx : IntKind.i64.wrap (-x) = -x := by rcases hx3 with rfl | rfl | rfl <;> rfl
  clear bx bY bz P1 P2
  obtain ⟨g1, g2, g3, g4, g5, g6, g7, g8, g9, g10, g11, g12, g13, g14, g15⟩ := hS
  go_wp2_with fail
  with_reducible refine (cmp_in (.mk kb ib tb sb lb) (.mk ka ia ta sa la) _ _ w _ (-x) HB.out HA.out F0.out zb hP1.out).mono ?_
  rintro e w2 ⟨rfl, hb, F0⟩
  obtain ⟨g1, g2, g3, g4, g5, g6, g7, g8, g9, g10, g11, g12, g13, g14, g15⟩ := keep15 ⟨g1, g2, g3, g4, g5, g6, g7, g8, g9, g10, g11, g12, g13, g14, g15⟩ hb
  clear hb
  go_wp2_with fail
  with_reducible refine (cmp_in (.mk ka ia ta sa la) (.mk ka ia ta sa la) _ _ w _ 0 HA.out HA.out F0.out za hP2.out).mono ?_
  rintro e w3 ⟨rfl, -, F0⟩
  have hB := Lib.hid F0.out.below
  clear g1 g2 g3 g4 g5 g6 g7 g8 g9 g10 g11 g12 g13 g14 g15
  clear HX HY HZ hP1 hP2 HA HB HC wx
  rcases hx3 with rfl | rfl | rfl <;> rcases hy3 with rfl | rfl | rfl <;> rcases hz3 with rfl | rfl | rfl
  all_goals first
    | (exfalso; have := P3.out; omega)
    | (go_wp2
       go_ret
       exact ⟨rfl, hB.out⟩)
end Go.Proofs.YtkidjhdfpdecoaaDoor.Vl
