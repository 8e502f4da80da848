/- Meets, the program's and the reference's. -/
import Derived.Test.YtkidjhdfpdecoaaVcB
import Derived.WalkKit
import Derived.WalkLawsBesides
import Derived.Lib.Hide
import Derived.Below
import Derived.Deep.QuietTactic
import Derived.BigQuiet
namespace Go.Proofs.Ytkidjhdfpdecoaa.Vl
open Go.RowKit
open Go.Proofs.Ytkidjhdfpdecoaa.Vals

def daysV (k i t : Int) : Int × Int × Bool := if k = 4 then (i, i, true) else if k = 5 then (i, t, true) else (0, 0, false)
def meetsB : V → V → Bool
  | .mk k i t _ _, .mk k' i' t' _ _ => (daysV k i t).2.2 && (daysV k' i' t').2.2 && decide (max (daysV k i t).1 (daysV k' i' t').1 ≤ min (daysV k i t).2.1 (daysV k' i' t').2.1)

set_option maxHeartbeats 1000000 in
theorem days_any (k i t : Int) (s : ByteArray) (sl : Value) (w : World) :
    Calls Try.prog 16 #[.agg #[.int .i64 k, .int .i64 i, .int .i64 t, .string s, sl]] w fun e w' => e = .returned (.tuple #[.int .i64 (daysV k i t).1, .int .i64 (daysV k i t).2.1, .bool (daysV k i t).2.2]) ∧ Below w.heap.size w w' := by
  have hb1 : ∀ a : Obj, Below w.heap.size w (w.alloc a) := fun a => (Below.refl _ _).alloc (Nat.le_refl _) _
  have HB1 := Lib.hid hb1
  clear hb1
  rcases (by omega : k = 4 ∨ k = 5 ∨ (k ≠ 4 ∧ k ≠ 5)) with rfl | rfl | ⟨h4, h5⟩
  · go_enter Try.func16, Try.ntmps16
    go_wp2_with fail
    go_quiet (fail)
    go_wp2_with fail
    go_ret3
    exact ⟨rfl, below_drewN (HB1.out _) _⟩
  · go_enter Try.func16, Try.ntmps16
    go_wp2_with fail
    go_quiet (fail)
    go_wp2_with fail
    go_ret3
    exact ⟨rfl, below_drewN (HB1.out _) _⟩
  · have q4 : (k == 4) = false := by simpa using h4
    have q5 : (k == 5) = false := by simpa using h5
    have HF : Hid (daysV k i t = (0, 0, false)) := Lib.hid (by unfold daysV; rw [if_neg h4, if_neg h5])
    clear h4 h5
    go_enter Try.func16, Try.ntmps16
    go_wp2_with fail
    go_ret3
    exact ⟨by rw [HF.out]; rfl, HB1.out _⟩

set_option maxHeartbeats 1000000 in
theorem daysR_any (k i t : Int) (s : ByteArray) (sl : Value) (w : World) :
    Calls Try.prog 17 #[.agg #[.int .i64 k, .int .i64 i, .int .i64 t, .string s, sl]] w fun e w' => e = .returned (.tuple #[.int .i64 (daysV k i t).1, .int .i64 (daysV k i t).2.1, .bool (daysV k i t).2.2]) ∧ Below w.heap.size w w' := by
  have hb1 : ∀ a : Obj, Below w.heap.size w (w.alloc a) := fun a => (Below.refl _ _).alloc (Nat.le_refl _) _
  have HB1 := Lib.hid hb1
  clear hb1
  rcases (by omega : k = 4 ∨ k = 5 ∨ (k ≠ 4 ∧ k ≠ 5)) with rfl | rfl | ⟨h4, h5⟩
  · go_enter Try.func17, Try.ntmps17
    go_wp2_with fail
    go_quiet (fail)
    go_wp2_with fail
    go_ret3
    exact ⟨rfl, below_drewN (HB1.out _) _⟩
  · go_enter Try.func17, Try.ntmps17
    go_wp2_with fail
    go_quiet (fail)
    go_wp2_with fail
    go_ret3
    exact ⟨rfl, below_drewN (HB1.out _) _⟩
  · have q4 : (k == 4) = false := by simpa using h4
    have q5 : (k == 5) = false := by simpa using h5
    have HF : Hid (daysV k i t = (0, 0, false)) := Lib.hid (by unfold daysV; rw [if_neg h4, if_neg h5])
    clear h4 h5
    go_enter Try.func17, Try.ntmps17
    go_wp2_with fail
    go_ret3
    exact ⟨by rw [HF.out]; rfl, HB1.out _⟩

set_option maxHeartbeats 2000000 in
set_option maxRecDepth 100000 in
theorem meets_any (a b : V) (ga gb : Value) (w : World) (B : Nat) (ha : VAt w B a ga) (hb : VAt w B b gb) :
    Calls Try.prog 8 #[ga, gb] w (SaysB (meetsB a b) w) := by
  obtain ⟨ka, ia, ta, sa, la⟩ := a
  obtain ⟨kb, ib, tb, sb, lb⟩ := b
  obtain ⟨sla, rfl, Aa, ca, rfl, -⟩ := ha
  obtain ⟨slb, rfl, Ab, cb, rfl, -⟩ := hb
  obtain ⟨r, hr⟩ : ∃ r, r = meetsB (.mk ka ia ta sa la) (.mk kb ib tb sb lb) := ⟨_, rfl⟩
  rw [← hr]
  obtain ⟨na, hna⟩ : ∃ n, n = la.length := ⟨_, rfl⟩
  obtain ⟨nb, hnb⟩ : ∃ n, n = lb.length := ⟨_, rfl⟩
  rw [← hna, ← hnb]
  clear hna hnb
  unfold meetsB at hr
  simp only at hr
  have d1 : ∀ W : World, Calls Try.prog 16 #[.agg #[.int .i64 ka, .int .i64 ia, .int .i64 ta, .string sa, .slice Aa na ca]] W _ := fun W => days_any ka ia ta sa (.slice Aa na ca) W
  have d2 : ∀ W : World, Calls Try.prog 16 #[.agg #[.int .i64 kb, .int .i64 ib, .int .i64 tb, .string sb, .slice Ab nb cb]] W _ := fun W => days_any kb ib tb sb (.slice Ab nb cb) W
  obtain ⟨⟨f1, t1, o1⟩, e1⟩ : ∃ d, d = daysV ka ia ta := ⟨_, rfl⟩
  obtain ⟨⟨f2, t2, o2⟩, e2⟩ : ∃ d, d = daysV kb ib tb := ⟨_, rfl⟩
  rw [← e1] at d1
  rw [← e2] at d2
  rw [← e1, ← e2] at hr
  have D1 := Lib.hid d1
  have D2 := Lib.hid d2
  clear d1 d2 e1 e2
  obtain ⟨W0, hW0⟩ : ∃ W0, W0 = (w.alloc (.cells #[.int .i64 ka, .int .i64 ia, .int .i64 ta, .string sa, .slice Aa na ca] 24)).alloc (.cells #[.int .i64 kb, .int .i64 ib, .int .i64 tb, .string sb, .slice Ab nb cb] 24) := ⟨_, rfl⟩
  have hb0 : Below w.heap.size w W0 ∧ w.heap.size + 2 ≤ W0.heap.size := by rw [hW0]; exact ⟨two_boxes w _ _, by simp⟩
  have hy : W0.heap[w.heap.size + 1]? = some (.cells #[.int .i64 kb, .int .i64 ib, .int .i64 tb, .string sb, .slice Ab nb cb] 24 (0, 0)) := by rw [hW0]; exact heap_second w _ _
  have HB0 := Lib.hid hb0
  have HY := Lib.hid hy
  have HW0 := Lib.hid hW0
  clear hb0 hW0 hy
  go_enter Try.func8, Try.ntmps8
  go_wp2_with fail
  rw [← HW0.out]
  refine (D1.out W0).mono ?_
  rintro e w1 ⟨rfl, hb1⟩
  have hY := (hb1.block (w.heap.size + 1) (by have := HB0.out.2; omega)).trans HY.out
  have v0 := cell_of_heap hY 0
  have v1 := cell_of_heap hY 1
  have v2 := cell_of_heap hY 2
  have v3 := cell_of_heap hY 3
  have v4 := cell_of_heap hY 4
  simp only [List.getElem?_toArray, List.getElem?_cons_zero, List.getElem?_cons_succ] at v0 v1 v2 v3 v4
  have HB1 : Hid (Below w.heap.size w w1) := Lib.hid (HB0.out.1.trans (hb1.mono HB0.out.1.size))
  clear hb1 hY
  go_wp2_with fail
  refine (D2.out w1).mono ?_
  rintro e w2 ⟨rfl, hb2⟩
  have HB2 : Hid (Below w.heap.size w w2) := Lib.hid (HB1.out.trans (hb2.mono HB1.out.size))
  clear hb2 v0 v1 v2 v3 v4
  cases o1
  · have HR : Hid (r = false) := Lib.hid (by rw [hr]; rfl)
    clear hr
    go_wp2_with fail
    go_ret
    exact ⟨by rw [HR.out]; rfl, HB2.out⟩
  cases o2
  · have HR : Hid (r = false) := Lib.hid (by rw [hr]; rfl)
    clear hr
    go_wp2_with fail
    go_ret
    exact ⟨by rw [HR.out]; rfl, HB2.out⟩
  have HR : Hid (r = decide (max f1 f2 ≤ min t1 t2)) := Lib.hid (by rw [hr]; rfl)
  clear hr
  go_wp2_with fail
  go_ret
  exact ⟨by rw [HR.out]; rfl, HB2.out⟩

set_option maxHeartbeats 2000000 in
set_option maxRecDepth 100000 in
theorem meetsR_any (a b : V) (ga gb : Value) (w : World) (B : Nat) (ha : VAt w B a ga) (hb : VAt w B b gb) :
    Calls Try.prog 9 #[ga, gb] w (SaysB (meetsB a b) w) := by
  obtain ⟨ka, ia, ta, sa, la⟩ := a
  obtain ⟨kb, ib, tb, sb, lb⟩ := b
  obtain ⟨sla, rfl, Aa, ca, rfl, -⟩ := ha
  obtain ⟨slb, rfl, Ab, cb, rfl, -⟩ := hb
  obtain ⟨r, hr⟩ : ∃ r, r = meetsB (.mk ka ia ta sa la) (.mk kb ib tb sb lb) := ⟨_, rfl⟩
  rw [← hr]
  obtain ⟨na, hna⟩ : ∃ n, n = la.length := ⟨_, rfl⟩
  obtain ⟨nb, hnb⟩ : ∃ n, n = lb.length := ⟨_, rfl⟩
  rw [← hna, ← hnb]
  clear hna hnb
  unfold meetsB at hr
  simp only at hr
  have d1 : ∀ W : World, Calls Try.prog 17 #[.agg #[.int .i64 ka, .int .i64 ia, .int .i64 ta, .string sa, .slice Aa na ca]] W _ := fun W => daysR_any ka ia ta sa (.slice Aa na ca) W
  have d2 : ∀ W : World, Calls Try.prog 17 #[.agg #[.int .i64 kb, .int .i64 ib, .int .i64 tb, .string sb, .slice Ab nb cb]] W _ := fun W => daysR_any kb ib tb sb (.slice Ab nb cb) W
  obtain ⟨⟨f1, t1, o1⟩, e1⟩ : ∃ d, d = daysV ka ia ta := ⟨_, rfl⟩
  obtain ⟨⟨f2, t2, o2⟩, e2⟩ : ∃ d, d = daysV kb ib tb := ⟨_, rfl⟩
  rw [← e1] at d1
  rw [← e2] at d2
  rw [← e1, ← e2] at hr
  have D1 := Lib.hid d1
  have D2 := Lib.hid d2
  clear d1 d2 e1 e2
  obtain ⟨W0, hW0⟩ : ∃ W0, W0 = (w.alloc (.cells #[.int .i64 ka, .int .i64 ia, .int .i64 ta, .string sa, .slice Aa na ca] 24)).alloc (.cells #[.int .i64 kb, .int .i64 ib, .int .i64 tb, .string sb, .slice Ab nb cb] 24) := ⟨_, rfl⟩
  have hb0 : Below w.heap.size w W0 ∧ w.heap.size + 2 ≤ W0.heap.size := by rw [hW0]; exact ⟨two_boxes w _ _, by simp⟩
  have hy : W0.heap[w.heap.size + 1]? = some (.cells #[.int .i64 kb, .int .i64 ib, .int .i64 tb, .string sb, .slice Ab nb cb] 24 (0, 0)) := by rw [hW0]; exact heap_second w _ _
  have HB0 := Lib.hid hb0
  have HY := Lib.hid hy
  have HW0 := Lib.hid hW0
  clear hb0 hW0 hy
  go_enter Try.func9, Try.ntmps9
  go_wp2_with fail
  rw [← HW0.out]
  refine (D1.out W0).mono ?_
  rintro e w1 ⟨rfl, hb1⟩
  have hY := (hb1.block (w.heap.size + 1) (by have := HB0.out.2; omega)).trans HY.out
  have v0 := cell_of_heap hY 0
  have v1 := cell_of_heap hY 1
  have v2 := cell_of_heap hY 2
  have v3 := cell_of_heap hY 3
  have v4 := cell_of_heap hY 4
  simp only [List.getElem?_toArray, List.getElem?_cons_zero, List.getElem?_cons_succ] at v0 v1 v2 v3 v4
  have HB1 : Hid (Below w.heap.size w w1) := Lib.hid (HB0.out.1.trans (hb1.mono HB0.out.1.size))
  clear hb1 hY
  go_wp2_with fail
  refine (D2.out w1).mono ?_
  rintro e w2 ⟨rfl, hb2⟩
  have HB2 : Hid (Below w.heap.size w w2) := Lib.hid (HB1.out.trans (hb2.mono HB1.out.size))
  clear hb2 v0 v1 v2 v3 v4
  cases o1
  · have HR : Hid (r = false) := Lib.hid (by rw [hr]; rfl)
    clear hr
    go_wp2_with fail
    go_ret
    exact ⟨by rw [HR.out]; rfl, HB2.out⟩
  cases o2
  · have HR : Hid (r = false) := Lib.hid (by rw [hr]; rfl)
    clear hr
    go_wp2_with fail
    go_ret
    exact ⟨by rw [HR.out]; rfl, HB2.out⟩
  have HR : Hid (r = decide (max f1 f2 ≤ min t1 t2)) := Lib.hid (by rw [hr]; rfl)
  clear hr
  go_wp2_with fail
  go_ret
  exact ⟨by rw [HR.out]; rfl, HB2.out⟩
end Go.Proofs.Ytkidjhdfpdecoaa.Vl
