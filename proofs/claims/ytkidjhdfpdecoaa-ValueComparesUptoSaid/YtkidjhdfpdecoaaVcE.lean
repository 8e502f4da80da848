/- The law. -/
import Derived.Test.YtkidjhdfpdecoaaVcC
import Derived.Test.YtkidjhdfpdecoaaVcD
import Derived.WalkKit
import Derived.Lib.Hide
import Derived.Below
import Derived.Deep.RegionHeld3
namespace Go.Proofs.Ytkidjhdfpdecoaa.Vl
open Go.RowKit
open Go.Proofs.Ytkidjhdfpdecoaa.Vals

theorem keep15 {w W W' : World} {ka ia ta : Int} {sa : ByteArray} {Aa : Option Addr} {na ca : Nat} {kb ib tb : Int} {sb : ByteArray} {Ab : Option Addr} {nb cb : Nat} {kc ic tc : Int} {sc : ByteArray} {Ac : Option Addr} {nc cc : Nat} (k : W.cell? ⟨w.heap.size, 0, none⟩ = some (.int .i64 ka) ∧ W.cell? ⟨w.heap.size, 1, none⟩ = some (.int .i64 ia) ∧ W.cell? ⟨w.heap.size, 2, none⟩ = some (.int .i64 ta) ∧ W.cell? ⟨w.heap.size, 3, none⟩ = some (.string sa) ∧ W.cell? ⟨w.heap.size, 4, none⟩ = some (.slice Aa na ca) ∧ W.cell? ⟨w.heap.size + 1, 0, none⟩ = some (.int .i64 kb) ∧ W.cell? ⟨w.heap.size + 1, 1, none⟩ = some (.int .i64 ib) ∧ W.cell? ⟨w.heap.size + 1, 2, none⟩ = some (.int .i64 tb) ∧ W.cell? ⟨w.heap.size + 1, 3, none⟩ = some (.string sb) ∧ W.cell? ⟨w.heap.size + 1, 4, none⟩ = some (.slice Ab nb cb) ∧ W.cell? ⟨w.heap.size + 1 + 1, 0, none⟩ = some (.int .i64 kc) ∧ W.cell? ⟨w.heap.size + 1 + 1, 1, none⟩ = some (.int .i64 ic) ∧ W.cell? ⟨w.heap.size + 1 + 1, 2, none⟩ = some (.int .i64 tc) ∧ W.cell? ⟨w.heap.size + 1 + 1, 3, none⟩ = some (.string sc) ∧ W.cell? ⟨w.heap.size + 1 + 1, 4, none⟩ = some (.slice Ac nc cc)) (hb : w.heap.size + 3 ≤ W.heap.size ∧ Below W.heap.size W W') :
    W'.cell? ⟨w.heap.size, 0, none⟩ = some (.int .i64 ka) ∧ W'.cell? ⟨w.heap.size, 1, none⟩ = some (.int .i64 ia) ∧ W'.cell? ⟨w.heap.size, 2, none⟩ = some (.int .i64 ta) ∧ W'.cell? ⟨w.heap.size, 3, none⟩ = some (.string sa) ∧ W'.cell? ⟨w.heap.size, 4, none⟩ = some (.slice Aa na ca) ∧ W'.cell? ⟨w.heap.size + 1, 0, none⟩ = some (.int .i64 kb) ∧ W'.cell? ⟨w.heap.size + 1, 1, none⟩ = some (.int .i64 ib) ∧ W'.cell? ⟨w.heap.size + 1, 2, none⟩ = some (.int .i64 tb) ∧ W'.cell? ⟨w.heap.size + 1, 3, none⟩ = some (.string sb) ∧ W'.cell? ⟨w.heap.size + 1, 4, none⟩ = some (.slice Ab nb cb) ∧ W'.cell? ⟨w.heap.size + 1 + 1, 0, none⟩ = some (.int .i64 kc) ∧ W'.cell? ⟨w.heap.size + 1 + 1, 1, none⟩ = some (.int .i64 ic) ∧ W'.cell? ⟨w.heap.size + 1 + 1, 2, none⟩ = some (.int .i64 tc) ∧ W'.cell? ⟨w.heap.size + 1 + 1, 3, none⟩ = some (.string sc) ∧ W'.cell? ⟨w.heap.size + 1 + 1, 4, none⟩ = some (.slice Ac nc cc) := Cells15.keep (w := w) k hb.1 hb.2

theorem lw_cmp (x y : V) (g g' : Value) (w W : World) (z : Int) (hx : VAt w w.heap.size x g) (hy : VAt w w.heap.size y g') (f : Fx w W) (hs : sizeV x ≤ 2000000) (hz : z = cmpV x y) :
    Calls Try.prog 4 #[g, g'] W fun e w' => e = .returned (.int .i64 z) ∧ (w.heap.size + 3 ≤ W.heap.size ∧ Below W.heap.size W w') ∧ Hid (Fx w w') :=
  (cmp_in x y g g' w W z hx hy f hs hz).mono fun _ _ ⟨h1, h2, h3⟩ => ⟨h1, ⟨f.size, h2⟩, Lib.hid h3⟩
theorem lw_cmpOf (x y : V) (g g' : Value) (w W : World) (z : Int) (hx : VAt w w.heap.size x g) (hy : VAt w w.heap.size y g') (f : Fx w W) (hz : z = cmpV x y) :
    Calls Try.prog 5 #[g, g'] W fun e w' => e = .returned (.int .i64 z) ∧ (w.heap.size + 3 ≤ W.heap.size ∧ Below W.heap.size W w') ∧ Hid (Fx w w') :=
  (cmpOf_in x y g g' w W z hx hy f hz).mono fun _ _ ⟨h1, h2, h3⟩ => ⟨h1, ⟨f.size, h2⟩, Lib.hid h3⟩
theorem VAt.to {w W : World} {v : V} {g : Value} (h : VAt w w.heap.size v g) (hb : Below w.heap.size w W) : VAt W W.heap.size v g := (h.below hb (Nat.le_refl _)).up hb.size
theorem lw_in (a b c : V) (ga gb gc : Value) (w W : World) (p : Bool) (ha : VAt w w.heap.size a ga) (hb : VAt w w.heap.size b gb) (hc : VAt w w.heap.size c gc) (f : Fx w W) (za : sizeV a ≤ 2000000) (hp : p = inB a b c) :
    Calls Try.prog 6 #[ga, gb, gc] W fun e w' => e = .returned (.bool p) ∧ (w.heap.size + 3 ≤ W.heap.size ∧ Below W.heap.size W w') ∧ Hid (Fx w w') :=
  (in_any a b c ga gb gc W (ha.to f.below) (hb.to f.below) (hc.to f.below) za).mono fun _ _ ⟨h1, h2⟩ => ⟨by rw [h1, hp], ⟨f.size, h2⟩, Lib.hid (f.next h2)⟩
theorem lw_inOf (a b c : V) (ga gb gc : Value) (w W : World) (p : Bool) (ha : VAt w w.heap.size a ga) (hb : VAt w w.heap.size b gb) (hc : VAt w w.heap.size c gc) (f : Fx w W) (hp : p = inB a b c) :
    Calls Try.prog 7 #[ga, gb, gc] W fun e w' => e = .returned (.bool p) ∧ (w.heap.size + 3 ≤ W.heap.size ∧ Below W.heap.size W w') ∧ Hid (Fx w w') :=
  (inOf_any a b c ga gb gc W (ha.to f.below) (hb.to f.below) (hc.to f.below)).mono fun _ _ ⟨h1, h2⟩ => ⟨by rw [h1, hp], ⟨f.size, h2⟩, Lib.hid (f.next h2)⟩
theorem lw_meets (a b : V) (ga gb : Value) (w W : World) (p : Bool) (ha : VAt w w.heap.size a ga) (hb : VAt w w.heap.size b gb) (f : Fx w W) (hp : p = meetsB a b) :
    Calls Try.prog 8 #[ga, gb] W fun e w' => e = .returned (.bool p) ∧ (w.heap.size + 3 ≤ W.heap.size ∧ Below W.heap.size W w') ∧ Hid (Fx w w') :=
  (meets_any a b ga gb W W.heap.size (ha.to f.below) (hb.to f.below)).mono fun _ _ ⟨h1, h2⟩ => ⟨by rw [h1, hp], ⟨f.size, h2⟩, Lib.hid (f.next h2)⟩
theorem lw_meetsR (a b : V) (ga gb : Value) (w W : World) (p : Bool) (ha : VAt w w.heap.size a ga) (hb : VAt w w.heap.size b gb) (f : Fx w W) (hp : p = meetsB a b) :
    Calls Try.prog 9 #[ga, gb] W fun e w' => e = .returned (.bool p) ∧ (w.heap.size + 3 ≤ W.heap.size ∧ Below W.heap.size W w') ∧ Hid (Fx w w') :=
  (meetsR_any a b ga gb W W.heap.size (ha.to f.below) (hb.to f.below)).mono fun _ _ ⟨h1, h2⟩ => ⟨by rw [h1, hp], ⟨f.size, h2⟩, Lib.hid (f.next h2)⟩

set_option maxHeartbeats 4000000 in
set_option maxRecDepth 100000 in
theorem valueCompares_any (a b c : V) (ga gb gc : Value) (w : World) (ha : VAt w w.heap.size a ga) (hb : VAt w w.heap.size b gb) (hc : VAt w w.heap.size c gc) (za : sizeV a ≤ 2000000) :
    Calls Try.prog 3 #[ga, gb, gc] w fun e w' => e = .returned (.bool true) ∧ Below w.heap.size w w' := by
  have HA := Lib.hid ha
  have HB := Lib.hid hb
  have HC := Lib.hid hc
  obtain ⟨x, hx⟩ : ∃ x, x = cmpV a b := ⟨_, rfl⟩
  obtain ⟨p, hp⟩ : ∃ p, p = inB a b c := ⟨_, rfl⟩
  obtain ⟨q, hq⟩ : ∃ q, q = meetsB a b := ⟨_, rfl⟩
  have HX := Lib.hid hx
  have HP := Lib.hid hp
  have HQ := Lib.hid hq
  obtain ⟨ka, ia, ta, sa, la⟩ := a
  obtain ⟨kb, ib, tb, sb, lb⟩ := b
  obtain ⟨kc, ic, tc, sc, lc⟩ := c
  obtain ⟨sla, rfl, Aa, ca, rfl, -⟩ := ha
  obtain ⟨slb, rfl, Ab, cb, rfl, -⟩ := hb
  obtain ⟨slc, rfl, Ac, cc, rfl, -⟩ := hc
  obtain ⟨na, hna⟩ : ∃ n, n = la.length := ⟨_, rfl⟩
  obtain ⟨nb, hnb⟩ : ∃ n, n = lb.length := ⟨_, rfl⟩
  obtain ⟨nc, hnc⟩ : ∃ n, n = lc.length := ⟨_, rfl⟩
  rw [← hna] at HA ⊢
  rw [← hnb] at HB ⊢
  rw [← hnc] at HC ⊢
  clear hx hp hq hna hnb hnc
  have e1 : (x == x) = true := by simp
  have e2 : (p == p) = true := by simp
  have e3 : (q == q) = true := by simp
  go_enter Try.func3, Try.ntmps3
  go_wp2_with fail
  obtain ⟨W0, hW0, f0, g1, g2, g3, g4, g5, g6, g7, g8, g9, g10, g11, g12, g13, g14, g15⟩ := cells15 w (T := 24) (ka := ka) (ia := ia) (ta := ta) (sa := sa) (Aa := Aa) (na := na) (ca := ca) (kb := kb) (ib := ib) (tb := tb) (sb := sb) (Ab := Ab) (nb := nb) (cb := cb) (kc := kc) (ic := ic) (tc := tc) (sc := sc) (Ac := Ac) (nc := nc) (cc := cc)
  rw [← hW0]
  clear hW0
  have F0 := Lib.hid f0.drew
  clear f0
  go_region_held3 (fun W => W.cell? ⟨w.heap.size, 0, none⟩ = some (.int .i64 ka) ∧ W.cell? ⟨w.heap.size, 1, none⟩ = some (.int .i64 ia) ∧ W.cell? ⟨w.heap.size, 2, none⟩ = some (.int .i64 ta) ∧ W.cell? ⟨w.heap.size, 3, none⟩ = some (.string sa) ∧ W.cell? ⟨w.heap.size, 4, none⟩ = some (.slice Aa na ca) ∧ W.cell? ⟨w.heap.size + 1, 0, none⟩ = some (.int .i64 kb) ∧ W.cell? ⟨w.heap.size + 1, 1, none⟩ = some (.int .i64 ib) ∧ W.cell? ⟨w.heap.size + 1, 2, none⟩ = some (.int .i64 tb) ∧ W.cell? ⟨w.heap.size + 1, 3, none⟩ = some (.string sb) ∧ W.cell? ⟨w.heap.size + 1, 4, none⟩ = some (.slice Ab nb cb) ∧ W.cell? ⟨w.heap.size + 1 + 1, 0, none⟩ = some (.int .i64 kc) ∧ W.cell? ⟨w.heap.size + 1 + 1, 1, none⟩ = some (.int .i64 ic) ∧ W.cell? ⟨w.heap.size + 1 + 1, 2, none⟩ = some (.int .i64 tc) ∧ W.cell? ⟨w.heap.size + 1 + 1, 3, none⟩ = some (.string sc) ∧ W.cell? ⟨w.heap.size + 1 + 1, 4, none⟩ = some (.slice Ac nc cc))
    (first
      | exact keep15 (by assumption) hb
      | exact ⟨g1, g2, g3, g4, g5, g6, g7, g8, g9, g10, g11, g12, g13, g14, g15⟩)
    (first
      | (go_at_call 4; with_reducible refine (lw_cmp (.mk ka ia ta sa la) (.mk kb ib tb sb lb) _ _ w _ x HA.out HB.out F0.out za HX.out).mono ?_; rintro e w1 ⟨rfl, hb, F0⟩)
      | (go_at_call 5; with_reducible refine (lw_cmpOf (.mk ka ia ta sa la) (.mk kb ib tb sb lb) _ _ w _ x HA.out HB.out F0.out HX.out).mono ?_; rintro e w1 ⟨rfl, hb, F0⟩)
      | (go_at_call 6; with_reducible refine (lw_in (.mk ka ia ta sa la) (.mk kb ib tb sb lb) (.mk kc ic tc sc lc) _ _ _ w _ p HA.out HB.out HC.out F0.out za HP.out).mono ?_; rintro e w1 ⟨rfl, hb, F0⟩)
      | (go_at_call 7; with_reducible refine (lw_inOf (.mk ka ia ta sa la) (.mk kb ib tb sb lb) (.mk kc ic tc sc lc) _ _ _ w _ p HA.out HB.out HC.out F0.out HP.out).mono ?_; rintro e w1 ⟨rfl, hb, F0⟩)
      | (go_at_call 8; with_reducible refine (lw_meets (.mk ka ia ta sa la) (.mk kb ib tb sb lb) _ _ w _ q HA.out HB.out F0.out HQ.out).mono ?_; rintro e w1 ⟨rfl, hb, F0⟩)
      | (go_at_call 9; with_reducible refine (lw_meetsR (.mk ka ia ta sa la) (.mk kb ib tb sb lb) _ _ w _ q HA.out HB.out F0.out HQ.out).mono ?_; rintro e w1 ⟨rfl, hb, F0⟩))
  clear g1 g2 g3 g4 g5 g6 g7 g8 g9 g10 g11 g12 g13 g14 g15 hb
  go_wp2_with fail
  go_ret
  exact ⟨rfl, F0.out.below⟩
end Go.Proofs.Ytkidjhdfpdecoaa.Vl
