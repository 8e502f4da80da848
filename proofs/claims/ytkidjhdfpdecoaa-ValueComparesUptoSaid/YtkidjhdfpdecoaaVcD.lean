/- In, the reference's. -/
import Derived.Test.YtkidjhdfpdecoaaVcB
import Derived.WalkKit
import Derived.Lib.Hide
import Derived.Below
import Derived.Deep.LoopGhost
namespace Go.Proofs.Ytkidjhdfpdecoaa.Vl
open Go.RowKit
open Go.Proofs.Ytkidjhdfpdecoaa.Vals

/-- The blocks that the rounds read. -/
structure Kp (w W : World) (cv cq : Array Value) : Prop where
  size : w.heap.size + 4 ≤ W.heap.size
  below : Below w.heap.size w W
  v : W.heap[w.heap.size]? = some (.cells cv 24 (0, 0))
  q : W.heap[w.heap.size + 1 + 1 + 1]? = some (.cells cq 24 (0, 0))
theorem Kp.next {w W W' : World} {cv cq : Array Value} (h : Kp w W cv cq) (hb : Below W.heap.size W W') : Kp w W' cv cq where
  size := Nat.le_trans h.size hb.size
  below := h.below.trans (hb.mono (by have := h.size; omega))
  v := (hb.block _ (by have := h.size; omega)).trans h.v
  q := (hb.block _ (by have := h.size; omega)).trans h.q
theorem Kp.fx {w W : World} {cv cq : Array Value} (h : Kp w W cv cq) : Fx w W := ⟨by have := h.size; omega, h.below⟩
theorem kp_start (w : World) (cv cb cc cq : Array Value) : Kp w ((((w.alloc (.cells cv 24)).alloc (.cells cb 24)).alloc (.cells cc 24)).alloc (.cells cq 24)) cv cq where
  size := by simp
  below := ((((Below.refl _ _).alloc (Nat.le_refl _) _).alloc (by simp) _).alloc (by simp; omega) _).alloc (by simp; omega) _
  v := (Below.heap_alloc _ _ w.heap.size (by simp; omega)).trans (third w _ _ _).1
  q := by
    have := heap_new (((w.alloc (.cells cv 24)).alloc (.cells cb 24)).alloc (.cells cc 24)) (.cells cq 24)
    simpa using this
theorem one_box (W : World) (o : Obj) : Below W.heap.size W (W.alloc o) := (Below.refl _ _).alloc (Nat.le_refl _) _

set_option maxHeartbeats 4000000 in
set_option maxRecDepth 100000 in
theorem inOf_any (a b c : V) (ga gb gc : Value) (w : World) (ha : VAt w w.heap.size a ga) (hb : VAt w w.heap.size b gb) (hc : VAt w w.heap.size c gc) :
    Calls Try.prog 7 #[ga, gb, gc] w (SaysB (inB a b c) w) := by
  have HA := Lib.hid ha
  have HB := Lib.hid hb
  have HC := Lib.hid hc
  obtain ⟨x, hx⟩ : ∃ x, x = cmpV a b := ⟨_, rfl⟩
  obtain ⟨y, hy⟩ : ∃ y, y = cmpV a c := ⟨_, rfl⟩
  obtain ⟨r, hr⟩ : ∃ r, r = inB a b c := ⟨_, rfl⟩
  rw [← hr]
  unfold inB lowOk highOk at hr
  rw [← hx, ← hy] at hr
  have HX := Lib.hid hx
  have HY := Lib.hid hy
  clear hx hy
  obtain ⟨ka, ia, ta, sa, la⟩ := a
  obtain ⟨kb, ib, tb, sb, lb⟩ := b
  obtain ⟨kc, ic, tc, sc, lc⟩ := c
  simp only [V.kind] at hr
  obtain ⟨sla, rfl, Aa, ca, rfl, -⟩ := ha
  obtain ⟨slb, rfl, Ab, cb, rfl, -⟩ := hb
  obtain ⟨slc, rfl, Ac, cc, rfl, -⟩ := hc
  obtain ⟨na, hna⟩ : ∃ n, n = la.length := ⟨_, rfl⟩
  obtain ⟨nb, hnb⟩ : ∃ n, n = lb.length := ⟨_, rfl⟩
  obtain ⟨nc, hnc⟩ : ∃ n, n = lc.length := ⟨_, rfl⟩
  rw [← hna] at HA ⊢
  rw [← hnb] at HB ⊢
  rw [← hnc] at HC ⊢
  clear hna hnb hnc
  have HR := Lib.hid hr
  clear hr
  go_enter Try.func7, Try.ntmps7
  go_wp2_with fail
  have hstart := kp_start w #[.int .i64 ka, .int .i64 ia, .int .i64 ta, .string sa, .slice Aa na ca] #[.int .i64 kb, .int .i64 ib, .int .i64 tb, .string sb, .slice Ab nb cb] #[.int .i64 kc, .int .i64 ic, .int .i64 tc, .string sc, .slice Ac nc cc] #[.int .i64 kb, .int .i64 ib, .int .i64 tb, .string sb, .slice Ab nb cb, .int .i64 kc, .int .i64 ic, .int .i64 tc, .string sc, .slice Ac nc cc]
  have HS := Lib.hid hstart
  clear hstart
  go_loopw [13] (fun i wr => ∃ k : Nat, k ≤ 2 ∧ i = .int .i64 k ∧ Hid (Kp w wr #[.int .i64 ka, .int .i64 ia, .int .i64 ta, .string sa, .slice Aa na ca] #[.int .i64 kb, .int .i64 ib, .int .i64 tb, .string sb, .slice Ab nb cb, .int .i64 kc, .int .i64 ic, .int .i64 tc, .string sc, .slice Ac nc cc] ∧
    (1 ≤ k → (kb == 0 || (kb == ka && decide (0 ≤ x))) = true) ∧ (k = 2 → (kc == 0 || (kc == ka && decide (y ≤ 0))) = true))) (fun i _ => 2 - (intOf i).toNat)
  case atStart => exact ⟨0, Nat.zero_le _, rfl, Lib.hid ⟨HS.out, by omega, by omega⟩⟩
  case round =>
    clear HS
    obtain ⟨k, hk, rfl, HK⟩ := hrel
    have g0 := cell_of_heap HK.out.1.v 0
    have g1 := cell_of_heap HK.out.1.v 1
    have g2 := cell_of_heap HK.out.1.v 2
    have g3 := cell_of_heap HK.out.1.v 3
    have g4 := cell_of_heap HK.out.1.v 4
    simp only [List.getElem?_toArray, List.getElem?_cons_zero, List.getElem?_cons_succ] at g0 g1 g2 g3 g4
    have hz : w.heap.size < wr.heap.size := by have := HK.out.1.size; omega
    rcases (by omega : k = 0 ∨ k = 1 ∨ k = 2) with rfl | rfl | rfl
    · have u0 := cell_of_heap HK.out.1.q 0
      have u1 := cell_of_heap HK.out.1.q 1
      have u2 := cell_of_heap HK.out.1.q 2
      have u3 := cell_of_heap HK.out.1.q 3
      have u4 := cell_of_heap HK.out.1.q 4
      simp only [List.getElem?_toArray, List.getElem?_cons_zero, List.getElem?_cons_succ] at u0 u1 u2 u3 u4
      rcases (in_low (k := ka) (kl := kb) (c := x)) with l0 | ⟨l0, l1⟩ | ⟨l0, l1, l2⟩ | ⟨l0, l1, l2⟩
      · have q1 : (kb == 0) = true := by simpa using l0
        have L0 := Lib.hid l0
        clear l0
        go_wp2_with fail
        go_roundw
        case measure => simp [intOf]
        case rel => exact ⟨1, by omega, by go_num, Lib.hid ⟨HK.out.1.next (one_box _ _), fun _ => (by rw [L0.out]; rfl), by omega⟩⟩
      · have HV : Hid (r = false) := Lib.hid (by rw [HR.out]; simp [l0, l1])
        have q1 : (kb == 0) = false := by simpa using l0
        have q2 : (kb != ka) = true := by simpa using l1
        clear l0 l1
        go_wp2_with fail
        go_ret
        exact ⟨by rw [HV.out]; rfl, (HK.out.1.next (one_box _ _)).below⟩
      · have HV : Hid (r = false) := Lib.hid (by rw [HR.out]; simp [l0, l1]; omega)
        have q1 : (kb == 0) = false := by simpa using l0
        have q2 : (kb != ka) = false := by simpa using l1
        subst l1
        clear l0
        have hf := (HK.out.1.next (one_box wr (.cells #[.int .i64 kb, .int .i64 ib, .int .i64 tb, .string sb, .slice Ab nb cb] 24)))
        have HFX := Lib.hid hf
        clear hf
        go_wp2_with fail
        with_reducible refine (cmpOf_in _ _ _ _ w _ x HA.out HB.out HFX.out.fx HX.out).mono ?_
        rintro e w1 ⟨rfl, hb1, -⟩
        have HB1 := Lib.hid hb1
        clear hb1
        go_wp2_with fail
        go_ret
        exact ⟨by rw [HV.out]; rfl, (HFX.out.next HB1.out).below⟩
      · have HV : Hid ((kb == 0 || (kb == ka && decide (0 ≤ x))) = true) := Lib.hid (by simp [l1]; omega)
        have q1 : (kb == 0) = false := by simpa using l0
        have q2 : (kb != ka) = false := by simpa using l1
        subst l1
        clear l0
        have hf := (HK.out.1.next (one_box wr (.cells #[.int .i64 kb, .int .i64 ib, .int .i64 tb, .string sb, .slice Ab nb cb] 24)))
        have HFX := Lib.hid hf
        clear hf
        go_wp2_with fail
        with_reducible refine (cmpOf_in _ _ _ _ w _ x HA.out HB.out HFX.out.fx HX.out).mono ?_
        rintro e w1 ⟨rfl, hb1, -⟩
        have HB1 := Lib.hid hb1
        clear hb1
        go_wp2_with fail
        go_roundw
        case measure => simp [intOf]
        case rel => exact ⟨1, by omega, by go_num, Lib.hid ⟨HFX.out.next HB1.out, fun _ => HV.out, by omega⟩⟩
    · have u0 := cell_of_heap HK.out.1.q 5
      have u1 := cell_of_heap HK.out.1.q 6
      have u2 := cell_of_heap HK.out.1.q 7
      have u3 := cell_of_heap HK.out.1.q 8
      have u4 := cell_of_heap HK.out.1.q 9
      simp only [List.getElem?_toArray, List.getElem?_cons_zero, List.getElem?_cons_succ] at u0 u1 u2 u3 u4
      rcases (in_high (k := ka) (kl := kc) (c := y)) with l0 | ⟨l0, l1⟩ | ⟨l0, l1, l2⟩ | ⟨l0, l1, l2⟩
      · have q1 : (kc == 0) = true := by simpa using l0
        have L0 := Lib.hid l0
        clear l0
        go_wp2_with fail
        go_roundw
        case measure => simp [intOf]
        case rel => exact ⟨2, by omega, by go_num, Lib.hid ⟨HK.out.1.next (one_box _ _), fun _ => HK.out.2.1 (by omega), fun _ => (by rw [L0.out]; rfl)⟩⟩
      · have HV : Hid (r = false) := Lib.hid (by rw [HR.out]; simp [l0, l1])
        have q1 : (kc == 0) = false := by simpa using l0
        have q2 : (kc != ka) = true := by simpa using l1
        clear l0 l1
        go_wp2_with fail
        go_ret
        exact ⟨by rw [HV.out]; rfl, (HK.out.1.next (one_box _ _)).below⟩
      · have HV : Hid (r = false) := Lib.hid (by rw [HR.out]; simp [l0, l1]; omega)
        have q1 : (kc == 0) = false := by simpa using l0
        have q2 : (kc != ka) = false := by simpa using l1
        subst l1
        clear l0
        have hf := (HK.out.1.next (one_box wr (.cells #[.int .i64 kc, .int .i64 ic, .int .i64 tc, .string sc, .slice Ac nc cc] 24)))
        have HFX := Lib.hid hf
        clear hf
        go_wp2_with fail
        with_reducible refine (cmpOf_in _ _ _ _ w _ y HA.out HC.out HFX.out.fx HY.out).mono ?_
        rintro e w1 ⟨rfl, hb1, -⟩
        have HB1 := Lib.hid hb1
        clear hb1
        go_wp2_with fail
        go_ret
        exact ⟨by rw [HV.out]; rfl, (HFX.out.next HB1.out).below⟩
      · have HV : Hid ((kc == 0 || (kc == ka && decide (y ≤ 0))) = true) := Lib.hid (by simp [l1]; omega)
        have q1 : (kc == 0) = false := by simpa using l0
        have q2 : (kc != ka) = false := by simpa using l1
        subst l1
        clear l0
        have hf := (HK.out.1.next (one_box wr (.cells #[.int .i64 kc, .int .i64 ic, .int .i64 tc, .string sc, .slice Ac nc cc] 24)))
        have HFX := Lib.hid hf
        clear hf
        go_wp2_with fail
        with_reducible refine (cmpOf_in _ _ _ _ w _ y HA.out HC.out HFX.out.fx HY.out).mono ?_
        rintro e w1 ⟨rfl, hb1, -⟩
        have HB1 := Lib.hid hb1
        clear hb1
        go_wp2_with fail
        go_roundw
        case measure => simp [intOf]
        case rel => exact ⟨2, by omega, by go_num, Lib.hid ⟨HFX.out.next HB1.out, fun _ => HK.out.2.1 (by omega), fun _ => HV.out⟩⟩
    · have HV : Hid (r = true) := Lib.hid (by rw [HR.out, HK.out.2.1 (by omega), HK.out.2.2 rfl]; rfl)
      go_wp2_with fail
      go_ret
      exact ⟨by rw [HV.out]; rfl, HK.out.1.below⟩
end Go.Proofs.Ytkidjhdfpdecoaa.Vl
