/- Lists of values, compared with a stack of what is left. -/
import Derived.Test.YtkidjhdfpdecoaaValB
import Derived.WalkKit
import Derived.Lib.Hide
import Derived.Below
import Derived.Deep.DeepCutAuto
import Derived.Deep.CutBlock
import Derived.Deep.LoopGhost
import Derived.Deep.QuietTactic
import Derived.BigQuiet
import Derived.BigRegion
import Derived.StillTailTactics
namespace Go.Proofs.Ytkidjhdfpdecoaa.Vl
open Go.RowKit
open Go.Proofs.Ytkidjhdfpdecoaa.Vals

/-- The stack's cells, the bottom first. -/
def Stk (w : World) (B : Nat) : List (List V × List V) → List Value → Prop
  | [], xs => xs = []
  | p :: r, xs => ∃ ys sa sb, xs = ys ++ [sa, sb] ∧ ys.length = r.length * 2 ∧ SlAt w B p.1 sa ∧ SlAt w B p.2 sb ∧ Stk w B r ys

/-- What holds at the head of a round. -/
def Ls (w : World) (res : Int) (g : Nat) (v : Value) (wr : World) : Prop :=
  ∃ st xs, wr.ownsRow w.heap.size 36 2 v st.length xs ∧ Stk w w.heap.size st xs ∧ cmpSt st = res ∧ sizeSt st = g ∧ sizeSt st ≤ 2097152 ∧ Below w.heap.size w wr

theorem sizeSt_len : ∀ st : List (List V × List V), st.length ≤ sizeSt st
  | [] => Nat.le_refl _
  | x :: r => by unfold sizeSt; have := sizeSt_len r; simp; omega

theorem info_pair : (Try.prog.info? 36).map (fun i => (i.zero, i.size, i.bytes)) = some (some (.agg #[.slice none 0 0, .slice none 0 0]), 2, 48) := by kernel_rfl
theorem info_pair_parts : ∃ i, Try.prog.info? 36 = some i ∧ i.zero = some (.agg #[.slice none 0 0, .slice none 0 0]) ∧ i.size = 2 ∧ i.bytes = 48 := by
  have h := info_pair
  exact info_parts h

/-- Two values in blocks of their own. -/
structure Boxed (wr wx : World) (px py : Nat) (cx cy : Array Value) : Prop where
  x : wx.heap[px]? = some (.cells cx 24 (0, 0))
  y : wx.heap[py]? = some (.cells cy 24 (0, 0))
  lx : wr.heap.size ≤ px
  ly : wr.heap.size ≤ py
  below : Below wr.heap.size wr wx
theorem heap_new (w : World) (o : Obj) : (w.alloc o).heap[w.heap.size]? = some o := by
  show (w.heap.push o)[w.heap.size]? = _; simp
theorem heap_first (w : World) (o o' : Obj) : ((w.alloc o).alloc o').heap[w.heap.size]? = some o :=
  (Below.heap_alloc (w.alloc o) o' w.heap.size (by simp)).trans (heap_new w o)
theorem heap_second (w : World) (o o' : Obj) : ((w.alloc o).alloc o').heap[w.heap.size + 1]? = some o' := by
  have := heap_new (w.alloc o) o'
  simpa using this
theorem boxed_xy (wr : World) (cx cy : Array Value) : Boxed wr ((wr.alloc (.cells cx 24)).alloc (.cells cy 24)).drew wr.heap.size (wr.heap.size + 1) cx cy where
  x := heap_first wr _ _
  y := heap_second wr _ _
  lx := Nat.le_refl _
  ly := by omega
  below := (two_boxes wr _ _).drew
theorem boxed_yx (wr : World) (cx cy : Array Value) : Boxed wr ((wr.alloc (.cells cy 24)).alloc (.cells cx 24)).drew (wr.heap.size + 1) wr.heap.size cx cy where
  x := heap_second wr _ _
  y := heap_first wr _ _
  lx := by omega
  ly := Nat.le_refl _
  below := (two_boxes wr _ _).drew
/-- The head of the stack written over. -/
structure Wrote (wx wy : World) (g n cap : Nat) (sa sb : Value) : Prop where
  own : ∀ (base : Nat) (e : TypeId) (ys : List Value) (ta tb : Value), wx.ownsRow base e 2 (.slice (some ⟨g, 0, none⟩) (n + 1) cap) (n + 1) (ys ++ [ta, tb]) → ys.length = n * 2 → wy.ownsRow base e 2 (.slice (some ⟨g, 0, none⟩) (n + 1) cap) (n + 1) (ys ++ [sa, sb])
  block : ∀ k, k ≠ g → wy.heap[k]? = wx.heap[k]?
  size : wy.heap.size = wx.heap.size
  below : ∀ B, B ≤ g → ∀ w, Below B w wx → Below B w wy
theorem wrote_mk (wx : World) (g n cap : Nat) (sa sb : Value) : Wrote wx ((wx.setCell ⟨g, n * 2, none⟩ sa).setCell ⟨g, n * 2 + 1, none⟩ sb).drew g n cap sa sb where
  own := by
    intro base e ys ta tb h hy
    have h1 := (h.stored (n * 2) sa).1.stored (n * 2 + 1) sb
    have h2 := h1.1.drew
    have e1 : ((ys ++ [ta, tb]).set (n * 2) sa).set (n * 2 + 1) sb = ys ++ [sa, sb] := by
      rw [List.set_append_right _ _ (by omega), List.set_append_right _ _ (by omega), hy, Nat.sub_self, show n * 2 + 1 - n * 2 = 1 by omega]
      rfl
    rw [e1] at h2
    exact h2
  block := by
    intro k hk
    show ((wx.setCell ⟨g, n * 2, none⟩ sa).setCell ⟨g, n * 2 + 1, none⟩ sb).heap[k]? = _
    rw [Below.heap_setCell _ _ _ _ (by simpa using hk), Below.heap_setCell _ _ _ _ (by simpa using hk)]
  size := by show ((wx.setCell _ _).setCell _ _).heap.size = _; simp
  below := fun B hB w h => ((h.setCell (by simpa using hB) _).setCell (by simpa using hB) _).drew
theorem sl_tail_one {w : World} {B : Nat} {l : List V} {A : Option Addr} {c : Nat} (h : c = 1) (h1 : l.length + 1 ≤ c) (h2 : l.length + 1 ≤ 1048576) : SlAt w B l (.slice A l.length 0) := by
  have e : l = [] := List.eq_nil_of_length_eq_zero (by omega)
  exact ⟨A, 0, rfl, by omega, by omega, .inl e⟩
theorem sl_tail_more {w : World} {B : Nat} {l : List V} {b off c : Nat} (hr : RowAt w B l b (off + 5)) (h1 : l.length + 1 ≤ c) (h2 : l.length + 1 ≤ 1048576) : SlAt w B l (.slice (some ⟨b, off + 5, none⟩) l.length (c - 1)) :=
  ⟨_, _, rfl, by omega, by omega, .inr ⟨b, off + 5, rfl, hr⟩⟩
theorem cell_of_heap {w : World} {p : Nat} {cs : Array Value} {T : TypeId} {fr : Nat × Nat} (h : w.heap[p]? = some (.cells cs T fr)) (j : Nat) : w.cell? ⟨p, j, none⟩ = cs[j]? := by
  simp [World.cell?, h]
theorem own_block {w w' : World} {base n g cap : Nat} {e : TypeId} {size : Nat} {xs : List Value} (h : w.ownsRow base e size (.slice (some ⟨g, 0, none⟩) n cap) n xs) (hb : w'.heap[g]? = w.heap[g]?) :
    w'.ownsRow base e size (.slice (some ⟨g, 0, none⟩) n cap) n xs := by
  refine ⟨h.1, ?_⟩
  rcases h.2 with ⟨h0, _⟩ | ⟨g', cap', cur, e1, hg, hc, r⟩
  · cases h0
  · cases e1; exact .inr ⟨_, _, cur, rfl, hg, hb.trans hc, r⟩
theorem pair_cells {w : World} {a b : Value} {T : TypeId} : ∀ (j : Nat) (u : Value), ([a, b] : List Value)[j]? = some u → (w.alloc (.cells #[a, b] T)).cell? ((⟨w.heap.size, 0, none⟩ : Addr).add j) = some u := by
  intro j u hj
  rw [show (⟨w.heap.size, 0, none⟩ : Addr).add j = ⟨w.heap.size, j, none⟩ from by simp [Addr.add]; exact fun h => h.symm, cell_of_heap (heap_new w _) j]
  simpa using hj
theorem pair_one {A A' : Option Addr} {n n' c c' : Nat} : ∀ u ∈ ([.slice A n c, .slice A' n' c'] : List Value), u.oneCell' = true := by
  intro u hu
  simp only [List.mem_cons, List.not_mem_nil, or_false] at hu
  rcases hu with rfl | rfl <;> rfl
theorem room2 {B : Nat} {w w' : World} (h : Below B w w') (o : Obj) : w.heap.size ≤ (w'.alloc o).heap.size := by
  have := h.size; simp; omega
theorem below_drewN {B : Nat} {w w' : World} (h : Below B w w') (n : Nat) : Below B w (w'.drewN n) := ⟨h.os, h.tape, h.output, h.size, h.block⟩
theorem own_pop {w : World} {base n g cap k : Nat} {e : TypeId} {ys : List Value} {sa sb : Value} (h : w.ownsRow base e 2 (.slice (some ⟨g, 0, none⟩) (n + 1) cap) (n + 1) (ys ++ [sa, sb])) (hy : ys.length = n * 2) :
    (w.drewN k).ownsRow base e 2 (.slice (some ⟨g, 0, none⟩) n cap) n ys := by
  refine ⟨hy, ?_⟩
  rcases h.2 with ⟨h0, _⟩ | ⟨g', cap', cur, e1, hg, hc, h1, h2, h3, h4⟩
  · cases h0
  · cases e1
    refine .inr ⟨_, _, cur, rfl, hg, hc, by omega, h2, h3, ?_⟩
    have := congrArg (List.take (n * 2)) h4
    rw [List.take_take, show min (n * 2) ((n + 1) * 2) = n * 2 by omega, List.take_append_of_le_length (by omega), ← hy, List.take_length] at this
    rw [← hy]; exact this

set_option maxHeartbeats 2000000 in
set_option maxRecDepth 100000 in
theorem lists_any (la lb : List V) (sa sb : Value) (w : World) (ha : SlAt w w.heap.size la sa) (hb : SlAt w w.heap.size lb sb) (hs : sizeL la ≤ 2000000) :
    Calls Try.prog 10 #[sa, sb] w (Says (cmpL la lb) w) := by
  obtain ⟨i0, hi, hz0, hz1, hz2⟩ := info_pair_parts
  have hstart : Ls w (cmpL la lb) (sizeSt [(la, lb)]) (.slice (some ⟨w.heap.size, 0, none⟩) 1 1) (w.alloc (.cells #[sa, sb] 36)) := by
    refine ⟨[(la, lb)], [sa, sb], ⟨rfl, .inr ⟨w.heap.size, 1, #[sa, sb], rfl, Nat.le_refl _, ?_, Nat.le_refl _, by decide, rfl, rfl⟩⟩, ⟨[], sa, sb, rfl, rfl, ha, hb, rfl⟩, cmpSt_one la lb, rfl, ?_, (Below.refl _ _).alloc (Nat.le_refl _) _⟩
    · show (w.heap.push _)[w.heap.size]? = _; simp
    · simp only [sizeSt]; omega
  obtain ⟨A, c, rfl, _⟩ := ha
  obtain ⟨A', c', rfl, _⟩ := hb
  have HS := Lib.hid hstart
  clear hstart
  go_enter Try.func10, Try.ntmps10
  go_wp2_with fail
  go_loopg [5] (sizeSt [(la, lb)]) (fun g v wr => Hid (Ls w (cmpL la lb) g v wr))
  case atStart => exact HS
  case round =>
    clear HS
    obtain ⟨st, xs, hown, hstk, hcmp, hgk, hsz, hbel⟩ := hrel.out
    clear hrel
    cases st with
    | nil =>
      rcases hown.2 with ⟨rfl, _⟩ | ⟨g, cap, cur, rfl, _⟩
      all_goals
        have HC := Lib.hid hcmp
        have HB := Lib.hid hbel
        clear hcmp hbel hown hstk hsz hgk
        go_wp2
        go_ret
        exact ⟨by rw [← HC.out]; rfl, HB.out⟩
    | cons p r =>
      obtain ⟨a, b⟩ := p
      obtain ⟨ys, sa, sb, rfl, hyl, hsa, hsb, hrest⟩ := hstk
      replace hsa : SlAt w w.heap.size a sa := hsa
      replace hsb : SlAt w w.heap.size b sb := hsb
      have hlen : r.length + 1 ≤ 2097152 := Nat.le_trans (sizeSt_len ((a, b) :: r)) hsz
      rcases hown.2 with ⟨_, h0⟩ | ⟨g, cap, cur, rfl, hg0, hg1, hg2, hg3, hg4, hg5⟩
      · simp at h0
      have c0 : wr.cell? ⟨g, r.length * 2, none⟩ = some sa := by
        have := hown.cellAt (r.length * 2) (by simp only [List.length_cons]; omega)
        rw [this, List.getElem?_append_right (by omega), hyl]; simp
      have c1 : wr.cell? ⟨g, r.length * 2 + 1, none⟩ = some sb := by
        have := hown.cellAt (r.length * 2 + 1) (by simp only [List.length_cons]; omega)
        rw [this, List.getElem?_append_right (by omega), hyl]; simp
      have f0 := hown.frozenAt (r.length * 2)
      have f1 := hown.frozenAt (r.length * 2 + 1)
      have hcap : r.length + 1 ≤ cap := by simpa using hg2
      obtain ⟨A, ca, rfl, hA1, hA2, hA3⟩ := hsa
      obtain ⟨A', ca', rfl, hB1, hB2, hB3⟩ := hsb
      have HOWN := Lib.hid hown
      have HCMP := Lib.hid hcmp
      have HGK := Lib.hid hgk
      have HBEL := Lib.hid hbel
      have HREST := Lib.hid hrest
      have HYL := Lib.hid hyl
      have HA3 := Lib.hid hA3
      have HB3 := Lib.hid hB3
      clear hown hcmp hgk hbel hrest hyl hA3 hB3 hg1 hg4 hg5 hg2
      simp only [List.length_cons]
      obtain ⟨n, hn⟩ : ∃ n, n = r.length := ⟨_, rfl⟩
      rw [← hn] at c0 c1 f0 f1 hcap hlen ⊢
      have HN := Lib.hid hn
      clear hn
      cases a with
      | nil =>
        cases b with
        | nil =>
          simp only [List.length_nil] at c0 c1
          go_wp2_with fail
          go_quiet (fail)
          go_wp2_with fail
          go_roundg (sizeSt r)
          case measure => rw [← HGK.out]; simp [sizeSt]; omega
          case rel =>
            refine Lib.hid ⟨r, ys, ?_, HREST.out, ?_, rfl, ?_, below_drewN HBEL.out _⟩
            · rw [HN.out]; exact own_pop HOWN.out HYL.out
            · rw [← HCMP.out]; exact (cmpSt_pop (.inl rfl) rfl).symm
            · have := HGK.out; simp only [sizeSt] at this hsz; omega
        | cons y b =>
          have HF : Hid (cmpL la lb = cmpI 0 ((y :: b).length : Nat)) := Lib.hid (by rw [← HCMP.out]; exact cmpSt_end (.inl rfl) (by simp))
          obtain ⟨m, hm⟩ : ∃ m, m = (y :: b).length := ⟨_, rfl⟩
          have hm1 : 0 < m := by rw [hm]; simp
          rw [← hm] at c1 HF hB1 hB2
          clear hm
          simp only [List.length_nil] at c0
          have q1 : ((0 : Int) != (m : Int)) = true := by simp; omega
          go_wp2_with fail
          go_quiet (fail)
          go_wp2_with fail
          obtain ⟨W2, hW2⟩ : ∃ W2, W2 = wr.drewN nq := ⟨_, rfl⟩
          replace c0 := (show W2.cell? ⟨g, n * 2, none⟩ = wr.cell? ⟨g, n * 2, none⟩ from by rw [hW2]; rfl).trans c0
          replace c1 := (show W2.cell? ⟨g, n * 2 + 1, none⟩ = wr.cell? ⟨g, n * 2 + 1, none⟩ from by rw [hW2]; rfl).trans c1
          have HB2 : Hid (Below w.heap.size w W2) := Lib.hid (by rw [hW2]; exact below_drewN HBEL.out _)
          rw [← hW2]
          clear hW2
          go_quiet ((go_at_call 12; exact Calls.quiet_of_same ((cmpInt_any _ _ _).mono fun _ _ ⟨h, g⟩ => ⟨h, g.symm⟩)))
          go_wp2_with fail
          go_ret
          exact ⟨by rw [HF.out]; rfl, below_drewN HB2.out _⟩
      | cons x a =>
        cases b with
        | nil =>
          have HF : Hid (cmpL la lb = cmpI ((x :: a).length : Nat) 0) := Lib.hid (by rw [← HCMP.out]; exact cmpSt_end (.inr rfl) (by simp))
          obtain ⟨m, hm⟩ : ∃ m, m = (x :: a).length := ⟨_, rfl⟩
          have hm1 : 0 < m := by rw [hm]; simp
          rw [← hm] at c0 HF hA1 hA2
          clear hm
          simp only [List.length_nil] at c1
          have q1 : ((m : Int) != (0 : Int)) = true := by simp; omega
          have q2 : ((m : Int) == (0 : Int)) = false := by simp; omega
          go_wp2_with fail
          go_quiet (fail)
          go_wp2_with fail
          obtain ⟨W2, hW2⟩ : ∃ W2, W2 = wr.drewN nq := ⟨_, rfl⟩
          replace c0 := (show W2.cell? ⟨g, n * 2, none⟩ = wr.cell? ⟨g, n * 2, none⟩ from by rw [hW2]; rfl).trans c0
          replace c1 := (show W2.cell? ⟨g, n * 2 + 1, none⟩ = wr.cell? ⟨g, n * 2 + 1, none⟩ from by rw [hW2]; rfl).trans c1
          have HB2 : Hid (Below w.heap.size w W2) := Lib.hid (by rw [hW2]; exact below_drewN HBEL.out _)
          rw [← hW2]
          clear hW2
          go_quiet ((go_at_call 12; exact Calls.quiet_of_same ((cmpInt_any _ _ _).mono fun _ _ ⟨h, g⟩ => ⟨h, g.symm⟩)))
          go_wp2_with fail
          go_ret
          exact ⟨by rw [HF.out]; rfl, below_drewN HB2.out _⟩
        | cons y b =>
          obtain ⟨ba, oa, rfl, hra⟩ : ∃ ba oa, A = some ⟨ba, oa, none⟩ ∧ RowAt w w.heap.size (x :: a) ba oa := by
            rcases HA3.out with h | h
            · cases h
            · exact h
          obtain ⟨bb, ob, rfl, hrb⟩ : ∃ bb ob, A' = some ⟨bb, ob, none⟩ ∧ RowAt w w.heap.size (y :: b) bb ob := by
            rcases HB3.out with h | h
            · cases h
            · exact h
          clear HA3 HB3
          simp only [List.length_cons] at c0 c1 hA1 hA2 hB1 hB2
          have q1 : ((a.length : Int) + 1 == 0) = false := by simp; omega
          have q2 : ((b.length : Int) + 1 == 0) = false := by simp; omega
          unfold RowAt at hra hrb
          obtain ⟨kx, ix, tx, sx, lx⟩ := x
          obtain ⟨ky, iy, ty, sy, ly⟩ := y
          have hcx := hra.1
          have hcy := hrb.1
          unfold CellsAt at hcx hcy
          obtain ⟨bx, x0, x1, x2, x3, Ax, cx, x4, lx1, lx2, lx3⟩ := hcx
          obtain ⟨by_, y0, y1, y2, y3, Ay, cy, y4, ly1, ly2, ly3⟩ := hcy
          replace x0 := (HBEL.out.cell (p := ⟨ba, oa, none⟩) bx).trans x0
          replace x1 := (HBEL.out.cell (p := ⟨ba, oa + 1, none⟩) bx).trans x1
          replace x2 := (HBEL.out.cell (p := ⟨ba, oa + 2, none⟩) bx).trans x2
          replace x3 := (HBEL.out.cell (p := ⟨ba, oa + 3, none⟩) bx).trans x3
          replace x4 := (HBEL.out.cell (p := ⟨ba, oa + 4, none⟩) bx).trans x4
          replace y0 := (HBEL.out.cell (p := ⟨bb, ob, none⟩) by_).trans y0
          replace y1 := (HBEL.out.cell (p := ⟨bb, ob + 1, none⟩) by_).trans y1
          replace y2 := (HBEL.out.cell (p := ⟨bb, ob + 2, none⟩) by_).trans y2
          replace y3 := (HBEL.out.cell (p := ⟨bb, ob + 3, none⟩) by_).trans y3
          replace y4 := (HBEL.out.cell (p := ⟨bb, ob + 4, none⟩) by_).trans y4
          have HRA := Lib.hid hra
          have HRB := Lib.hid hrb
          have HSX : Hid (SlAt w w.heap.size lx (.slice Ax lx.length cx)) := Lib.hid ⟨Ax, cx, rfl, lx1, lx2, lx3⟩
          have HSY : Hid (SlAt w w.heap.size ly (.slice Ay ly.length cy)) := Lib.hid ⟨Ay, cy, rfl, ly1, ly2, ly3⟩
          clear hra hrb lx3 ly3
          go_upto_region 8 with (fail)
          have hle := HBEL.out.size
          have hba : ba < wr.heap.size := by omega
          have hbb : bb < wr.heap.size := by omega
          have hgg : g < wr.heap.size := (HOWN.out.lt g rfl).2
          have hba' : ba < wr.heap.size + 1 := by omega
          have hbb' : bb < wr.heap.size + 1 := by omega
          have hgg' : g < wr.heap.size + 1 := by omega
          go_cut [7, 8] (fun p q wx => ∃ px py : Nat, p = .pointer (some ⟨px, 0, none⟩) ∧ q = .pointer (some ⟨py, 0, none⟩) ∧ Hid (Boxed wr wx px py #[.int .i64 kx, .int .i64 ix, .int .i64 tx, .string sx, .slice Ax lx.length cx] #[.int .i64 ky, .int .i64 iy, .int .i64 ty, .string sy, .slice Ay ly.length cy]))
          case first =>
            go_region
            all_goals (go_wp2_with fail; go_meet)
            · exact ⟨_, _, rfl, rfl, Lib.hid (boxed_xy wr _ _)⟩
            · exact ⟨_, _, rfl, rfl, Lib.hid (boxed_yx wr _ _)⟩
          case rest =>
            obtain ⟨px, py, rfl, rfl, hbx⟩ := hcut
            obtain ⟨w1, rfl⟩ : ∃ w1 : World, w1 = wc := ⟨_, rfl⟩
            have d0 := (hbx.out.below.cell (p := ⟨g, n * 2, none⟩) hgg).trans c0
            have d1 := (hbx.out.below.cell (p := ⟨g, n * 2 + 1, none⟩) hgg).trans c1
            have e0 := (hbx.out.below.frozen (p := ⟨g, n * 2, none⟩) hgg).trans f0
            have e1 := (hbx.out.below.frozen (p := ⟨g, n * 2 + 1, none⟩) hgg).trans f1
            clear c0 c1 f0 f1 x0 x1 x2 x3 x4 y0 y1 y2 y3 y4
            go_upto_region 9 with (fail)
            go_cut [6] (fun v wy => v = .pointer (some ⟨g, n * 2, none⟩) ∧ Hid (∃ ta tb, Wrote w1 wy g n cap ta tb ∧ SlAt w w.heap.size a ta ∧ SlAt w w.heap.size b tb))
            case first =>
              go_region
              go_wp2_with fail
              all_goals go_meet
              all_goals refine ⟨rfl, Lib.hid ⟨_, _, wrote_mk .., ?_, ?_⟩⟩
              all_goals first
                | exact sl_tail_one (by assumption) hA2 hA1
                | exact sl_tail_one (by assumption) hB2 hB1
                | exact sl_tail_more HRA.out.2 hA2 hA1
                | exact sl_tail_more HRB.out.2 hB2 hB1
            case rest =>
              obtain ⟨rfl, hwr⟩ := hcut
              obtain ⟨w2, rfl⟩ : ∃ w2 : World, w2 = wc := ⟨_, rfl⟩
              obtain ⟨ta, tb, hw, hta, htb⟩ := hwr.out
              have own1 : w1.ownsRow w.heap.size 36 2 (.slice (some ⟨g, 0, none⟩) (n + 1) cap) (n + 1) (ys ++ [.slice (some ⟨ba, oa, none⟩) (a.length + 1) ca, .slice (some ⟨bb, ob, none⟩) (b.length + 1) ca']) := by
                have h := HOWN.out
                simp only [List.length_cons] at h
                rw [← HN.out] at h
                exact own_block h (hbx.out.below.block g hgg)
              have own2 := hw.own _ _ _ _ _ own1 (by rw [HN.out]; exact HYL.out)
              have hpx : px ≠ g := by have := hbx.out.lx; omega
              have hpy : py ≠ g := by have := hbx.out.ly; omega
              have hX := (hw.block px hpx).trans hbx.out.x
              have hY := (hw.block py hpy).trans hbx.out.y
              have bel2 : Below w.heap.size w w2 := hw.below _ hg0 _ (HBEL.out.trans (hbx.out.below.mono hle))
              have u0 := cell_of_heap hX 0
              have u1 := cell_of_heap hX 1
              have u2 := cell_of_heap hX 2
              have u3 := cell_of_heap hX 3
              have u4 := cell_of_heap hX 4
              have v0 := cell_of_heap hY 0
              have v1 := cell_of_heap hY 1
              have v2 := cell_of_heap hY 2
              have v3 := cell_of_heap hY 3
              have v4 := cell_of_heap hY 4
              simp only [List.getElem?_toArray, List.getElem?_cons_zero, List.getElem?_cons_succ] at u0 u1 u2 u3 u4 v0 v1 v2 v3 v4
              have hstk : Stk w w.heap.size ((a, b) :: r) (ys ++ [ta, tb]) := ⟨ys, ta, tb, rfl, HYL.out, hta, htb, HREST.out⟩
              have HSTK := Lib.hid hstk
              have HOWN2 := Lib.hid own2
              have HBEL2 := Lib.hid bel2
              have HVX : Hid (VAt w w.heap.size (.mk kx ix tx sx lx) (.agg #[.int .i64 kx, .int .i64 ix, .int .i64 tx, .string sx, .slice Ax lx.length cx])) := Lib.hid ⟨_, rfl, HSX.out⟩
              have HVY : Hid (VAt w w.heap.size (.mk ky iy ty sy ly) (.agg #[.int .i64 ky, .int .i64 iy, .int .i64 ty, .string sy, .slice Ay ly.length cy])) := Lib.hid ⟨_, rfl, HSY.out⟩
              clear hw hta htb own1 own2 hX hY bel2 hstk hwr hbx d0 d1 e0 e1
              by_cases hk : kx = 7 ∧ ky = 7
              · obtain ⟨rfl, rfl⟩ := hk
                go_upto_region 11 with (fail)
                go_wp2_with (at_builtin; refine wpList_append_own _ rfl _ _ 37 rfl w.heap.size 36 i0 (.agg #[.slice none 0 0, .slice none 0 0]) 2 48 Try.underlying37 hi hz0 hz1 hz2 rfl (by decide) _ _ _ rfl (HOWN2.out.alloc _) ⟨w2.heap.size, 0, none⟩ 1 1 [.slice Ax lx.length cx, .slice Ay ly.length cy] rfl rfl pair_cells pair_one (by unfold maxLen; omega) (by omega) (room2 HBEL2.out _) ?_; intro v' w3 hown3 hgrow3 _)
                have HOWN3 := Lib.hid hown3
                have HB3 : Hid (Below w.heap.size w w3) := Lib.hid ((HBEL2.out.alloc HBEL2.out.size _).grown hgrow3 (room2 HBEL2.out _) (fun j hj => by cases hj; exact hg0))
                clear hown3 hgrow3
                go_wp2_with fail
                go_roundg (sizeSt ((lx, ly) :: (a, b) :: r))
                case measure => rw [← HGK.out]; simp only [sizeSt, sizeL, sizeV]; omega
                case rel =>
                  refine Lib.hid ⟨(lx, ly) :: (a, b) :: r, _, ?_, ⟨ys ++ [ta, tb], _, _, rfl, ?_, HSX.out, HSY.out, HSTK.out⟩, ?_, rfl, ?_, HB3.out⟩
                  · have h := HOWN3.out
                    rw [HN.out] at h
                    exact h
                  · have := HYL.out
                    simp only [List.length_append, List.length_cons, List.length_nil]; omega
                  · rw [← HCMP.out]; exact (cmpSt_push (x := .mk 7 ix tx sx lx) (y := .mk 7 iy ty sy ly) rfl rfl).symm
                  · simp only [sizeSt, sizeL, sizeV] at hsz ⊢; omega
              · have hg2 : g < w2.heap.size := (HOWN2.out.lt g rfl).2
                have hno : ¬ ((V.mk kx ix tx sx lx).kind = 7 ∧ (V.mk ky iy ty sy ly).kind = 7) := hk
                have HNO := Lib.hid hno
                have hends : ∃ o, cmp1 (.mk kx ix tx sx lx) (.mk ky iy ty sy ly) = o ∧ (o = 0 → cmpSt ((a, b) :: r) = cmpL la lb) ∧ (o ≠ 0 → cmpL la lb = o) := by
                  refine ⟨_, rfl, fun h => ?_, fun h => ?_⟩
                  · rw [← HCMP.out]; exact (cmpSt_same HNO.out h).symm
                  · rw [← HCMP.out]; exact cmpSt_other HNO.out h
                obtain ⟨o, ho, ho1, ho2⟩ := hends
                have HO := Lib.hid ho
                have HO1 := Lib.hid ho1
                have HO2 := Lib.hid ho2
                clear hno ho ho1 ho2
                by_cases hk1 : kx = 7
                case' pos =>
                  subst hk1
                  have q3 : (ky == 7) = false := by
                    simp only [true_and] at hk
                    simpa using hk
                case' neg =>
                  have q3 : (kx == 7) = false := by simpa using hk1
                all_goals
                  clear hk
                  go_wp2_with fail
                  refine (compareSingle_any (.mk _ ix tx sx lx) (.mk ky iy ty sy ly) _ _ w.heap.size _ (HVX.out.below HBEL2.out (Nat.le_refl _)) (HVY.out.below HBEL2.out (Nat.le_refl _))).mono ?_
                  rintro e w3 ⟨rfl, hb3⟩
                  have HO3 := Lib.hid (own_block HOWN2.out (hb3.block g hg2))
                  have HB3 : Hid (Below w.heap.size w w3) := Lib.hid (HBEL2.out.trans (hb3.mono HBEL2.out.size))
                  rw [HO.out]
                  clear hb3
                  by_cases h0 : o = 0
                  · have q4 : (o != 0) = false := by simpa using h0
                    have H0 := Lib.hid h0
                    clear h0
                    go_wp2_with fail
                    go_roundg (sizeSt ((a, b) :: r))
                    case measure => rw [← HGK.out]; simp only [sizeSt, sizeL, sizeV]; omega
                    case rel =>
                      refine Lib.hid ⟨(a, b) :: r, _, ?_, HSTK.out, HO1.out H0.out, rfl, ?_, HB3.out⟩
                      · simp only [List.length_cons]
                        rw [← HN.out]
                        exact HO3.out
                      · simp only [sizeSt, sizeL, sizeV] at hsz ⊢; omega
                  · have q4 : (o != 0) = true := by simpa using h0
                    have H0 := Lib.hid h0
                    clear h0
                    go_wp2_with fail
                    go_ret
                    exact ⟨by rw [HO2.out H0.out]; rfl, HB3.out⟩
end Go.Proofs.Ytkidjhdfpdecoaa.Vl
