/- The reference's SpansOf. -/
import Derived.Test.YticdapkljbillaaGreatDoorTzH
import Derived.WalkKit
import Derived.Lib.Hide
import Derived.Outline
import Derived.Deep.DeepCutAuto
import Derived.Deep.CutBlock
import Derived.Deep.LoopGhost
import Derived.Deep.QuietTactic
import Derived.BigQuiet
import Derived.BigRegion
import Derived.Lib.SmallJoins
namespace Go.Proofs.YticdapkljbillaaGreatDoor
open Go.RowKit

theorem bolds_snoc (l : List Sp) (x : Sp) : bolds (l ++ [x]) = bolds l + if x.kind = 7 then 1 else 0 := by
  unfold bolds
  rw [List.filter_append]
  by_cases h : x.kind = 7 <;> simp [List.filter_cons, h]
theorem bolds_le (l : List Sp) : bolds l ≤ l.length := List.length_filter_le _ _
/-- The cells of a span in a new block. -/
theorem sp_news (w : World) (x : Sp) (T : TypeId) : ∀ j u, x.cells[j]? = some u → (w.alloc (.cells #[.int .i64 x.kind, .int .i64 x.from_, .int .i64 x.to_, .string x.text, .string x.shw, .int .i64 x.id, .bool x.strong] T)).cell? ((⟨w.heap.size, 0, none⟩ : Addr).add j) = some u := by
  intro j u hj
  have h := heap_alloc_new w (.cells #[.int .i64 x.kind, .int .i64 x.from_, .int .i64 x.to_, .string x.text, .string x.shw, .int .i64 x.id, .bool x.strong] T)
  rw [addr_plus, Nat.zero_add, cell_of_row _ _ j _ _ (0, 0) h]
  simpa [Sp.cells] using hj
theorem sp_one (x : Sp) : ∀ u ∈ x.cells, u.oneCell' = true := by
  intro u hu
  simp only [Sp.cells, List.mem_cons, List.not_mem_nil, or_false] at hu
  rcases hu with rfl | rfl | rfl | rfl | rfl | rfl | rfl <;> rfl
theorem size_le_alloc2 {w w1 : World} (h : w.heap.size ≤ w1.heap.size) (o o' : Obj) : w.heap.size ≤ ((w1.alloc o).alloc o').heap.size := by simp; omega

theorem own_keep {w w' : World} {base n size : Nat} {e : TypeId} {v : Value} {xs : List Value} (h : w.ownsRow base e size v n xs) (hb : ∀ k, v.ownBlock = some k → w'.heap[k]? = w.heap[k]?) : w'.ownsRow base e size v n xs := by
  refine ⟨h.1, ?_⟩
  rcases h.2 with h0 | ⟨g, cap, cur, e1, hg, hc, r⟩
  · exact .inl h0
  · exact .inr ⟨g, cap, cur, e1, hg, (hb g (by rw [e1]; rfl)).trans hc, r⟩
theorem own_base {w : World} {base base' n size : Nat} {e : TypeId} {v : Value} {xs : List Value} (h : w.ownsRow base e size v n xs) (hb : base' ≤ base) : w.ownsRow base' e size v n xs := by
  refine ⟨h.1, ?_⟩
  rcases h.2 with h0 | ⟨g, cap, cur, e1, hg, r⟩
  · exact .inl h0
  · exact .inr ⟨g, cap, cur, e1, Nat.le_trans hb hg, r⟩
theorem own_lt {w : World} {base n size : Nat} {e : TypeId} {v : Value} {xs : List Value} (h : w.ownsRow base e size v n xs) : ∀ k, v.ownBlock = some k → k < w.heap.size := fun k hk => (h.lt k hk).2
theorem own_slice {w : World} {base n size : Nat} {e : TypeId} {v : Value} {xs : List Value} (h : w.ownsRow base e size v n xs) (hs : 0 < size) : ∃ A c, v = .slice A n c ∧ (0 < n → ∃ g, A = some ⟨g, 0, none⟩ ∧ n ≤ c ∧ c ≤ maxLen) := by
  rcases h.2 with ⟨h0, h1⟩ | ⟨g, cap, cur, e1, hg, hc, h2, h3, r⟩
  · subst h1
    exact ⟨none, 0, h0, fun h => absurd h (Nat.lt_irrefl _)⟩
  · exact ⟨_, cap, e1, fun _ => ⟨g, rfl, h2, h3⟩⟩
/-- What holds at the head of each round of the first loop. -/
def TokRow (s : ByteArray) (w : World) (a : Nat) (L : List Sp) (v : Value) (wr : World) : Prop :=
  a ≤ s.size ∧ L ++ rtoksAt s a = rtoks s ∧ wr.ownsRow w.heap.size 34 7 v L.length (L.flatMap Sp.cells) ∧ Below w.heap.size w wr

/-- What the second loop keeps: the round's own span in a block, the row of the spans so far. -/
structure M2 (s : ByteArray) (w2 : World) (j P : Nat) (y : Sp) (v : Value) (wx : World) : Prop where
  blk : wx.heap[P]? = some (.cells #[.int .i64 y.kind, .int .i64 y.from_, .int .i64 y.to_, .string y.text, .string y.shw, .int .i64 y.id, .bool y.strong] 34 (0, 0))
  ne : ∀ k, v.ownBlock = some k → k ≠ P
  own : wx.ownsRow w2.heap.size 34 7 v (outAt s j).length ((outAt s j).flatMap Sp.cells)
  bel : Below w2.heap.size w2 wx
  lo : w2.heap.size ≤ P
theorem M2.kind {s : ByteArray} {w2 : World} {j P : Nat} {y : Sp} {v : Value} {wx : World} (h : M2 s w2 j P y v wx) (k : Nat) : M2 s w2 j P { y with kind := k } v (wx.setCell ⟨P, 0, none⟩ (.int .i64 k)) where
  blk := (Joins.block_setCell h.blk _).trans rfl
  ne := h.ne
  own := own_keep h.own (fun k hk => Below.heap_setCell _ _ _ _ (h.ne k hk))
  bel := h.bel.setCell h.lo _
  lo := h.lo
theorem M2.strong {s : ByteArray} {w2 : World} {j P : Nat} {y : Sp} {v : Value} {wx : World} (h : M2 s w2 j P y v wx) (b : Bool) : M2 s w2 j P { y with strong := b } v (wx.setCell ⟨P, 6, none⟩ (.bool b)) where
  blk := (Joins.block_setCell h.blk _).trans rfl
  ne := h.ne
  own := own_keep h.own (fun k hk => Below.heap_setCell _ _ _ _ (h.ne k hk))
  bel := h.bel.setCell h.lo _
  lo := h.lo
theorem M2.drewN {s : ByteArray} {w2 : World} {j P : Nat} {y : Sp} {v : Value} {wx : World} (h : M2 s w2 j P y v wx) (n : Nat) : M2 s w2 j P y v (wx.drewN n) :=
  ⟨h.blk, h.ne, own_keep h.own (fun _ _ => rfl), ⟨h.bel.os, h.bel.tape, h.bel.output, h.bel.size, h.bel.block⟩, h.lo⟩
theorem joins_nil (y : Sp) : joins [] y = false := rfl
theorem put_new {out : List Sp} {y : Sp} (h : joins out y = false) : putSp out y = out ++ [y] := by unfold putSp; rw [if_neg (by simp [h])]
/-- At the head of each round of the second loop. -/
structure R2 (s : ByteArray) (w2 : World) (j m : Nat) (v : Value) (wx : World) : Prop where
  le : j ≤ (rtoks s).length
  seen : m = seenAt s j
  own : wx.ownsRow w2.heap.size 34 7 v (outAt s j).length ((outAt s j).flatMap Sp.cells)
  bel : Below w2.heap.size w2 wx
theorem R2.box {s : ByteArray} {w2 : World} {j m : Nat} {v : Value} {wx : World} (h : R2 s w2 j m v wx) (x : Sp) :
    M2 s w2 j wx.heap.size x v (wx.alloc (.cells #[.int .i64 x.kind, .int .i64 x.from_, .int .i64 x.to_, .string x.text, .string x.shw, .int .i64 x.id, .bool x.strong] 34)) where
  blk := heap_alloc_new wx _
  ne := fun k hk => Nat.ne_of_lt (own_lt h.own k hk)
  own := h.own.alloc _
  bel := h.bel.alloc h.bel.size _
  lo := h.bel.size
def newKind (pp m k : Nat) : Nat := if k = 7 ∧ pp < m + 1 then 1 else k
theorem marked_kind (pp m : Nat) (x : Sp) : (marked pp m x).kind = newKind pp m x.kind := rfl
theorem marked_is (pp m : Nat) (x : Sp) : marked pp m x = { x with kind := newKind pp m x.kind, strong := if newKind pp m x.kind = 7 then true else decide ((if x.kind = 7 then m + 1 else m) % 2 = 1 ∧ (if x.kind = 7 then m + 1 else m) ≤ pp) } := by
  by_cases h : x.kind = 7
  · by_cases h2 : pp < m + 1
    · have h3 : ¬ m + 1 ≤ pp := by omega
      simp [marked, newKind, h, h2, h3]
    · have h3 : m + 1 ≤ pp := by omega
      simp [marked, newKind, h, h2, h3]
  · simp [marked, newKind, h]

set_option maxRecDepth 100000 in
set_option maxHeartbeats 8000000 in
theorem spansOf_any (s : ByteArray) (w : World) (hs : s.size ≤ 1048576) :
    Calls Tryz.prog 19 #[.string s] w fun e w' => ∃ v, e = .returned v ∧ w'.ownsRow w.heap.size 34 7 v (spans s).length ((spans s).flatMap Sp.cells) ∧ Below w.heap.size w w' := by
  obtain ⟨i0, hi, hz0, hz1, hz2⟩ := info_parts infoSpan
  go_enter Tryz.func19, Tryz.ntmps19
  go_wp2_with fail
  go_loopw [3, 4, 5] (fun v b i wr => ∃ (a : Nat) (L : List Sp) (n : Nat), i = .int .i64 a ∧ b = .int .i64 n ∧ Hid (n = bolds L) ∧ Hid (TokRow s w a L v wr)) (fun _ _ i _ => s.size - (intOf i).toNat)
  case atStart => exact ⟨0, [], 0, rfl, rfl, Lib.hid rfl, Lib.hid ⟨Nat.zero_le _, rfl, ⟨rfl, .inl ⟨rfl, rfl⟩⟩, Below.refl _ _⟩⟩
  case round =>
    obtain ⟨a, L, n, rfl, rfl, HN, HT⟩ := hrel
    obtain ⟨t1, t2, t3, t4⟩ := HT.out
    have hlen := rtoks_len s
    by_cases ha : a < s.size
    · have hL : L.length + 1 ≤ s.size := by
        have := congrArg List.length t2
        rw [rtoksAt_step ha, List.length_append, List.length_cons] at this
        omega
      have hn1 : n ≤ s.size := by have := HN.out; have := bolds_le L; omega
      have hn2 : (n : Int) ≤ 1048576 := by omega
      obtain ⟨X, hX⟩ : ∃ X, X = refTok s a := ⟨_, rfl⟩
      obtain ⟨l1, l2, -⟩ := refTok_lt ha
      have hrow : L ++ [X] ++ rtoksAt s X.to_ = rtoks s := by rw [hX, List.append_assoc, ← t2, rtoksAt_step ha]; rfl
      rw [← hX] at l1 l2
      have htok : ∀ W, Calls Tryz.prog 35 #[.string s, .int .i64 a] W (Quiet W X.val) := fun W => by rw [hX]; exact token_any s a W (by omega) ha
      have HTOK := Lib.hid htok
      have HROW := Lib.hid hrow
      have HOWN := Lib.hid t3
      have HBEL := Lib.hid t4
      have hk : X.kind = 7 ∨ X.kind ≠ 7 := by omega
      clear hX htok hrow t2 t3 t4
      have HB : Hid (n + (if X.kind = 7 then 1 else 0) = bolds (L ++ [X])) := Lib.hid (by rw [bolds_snoc, HN.out])
      have p1 : (a : Int) < s.size := by omega
      obtain ⟨xk, xf, xe, xt, xs, xi, xb⟩ := X
      simp only at l1 l2 HROW HB hk
      unfold Sp.val at HTOK
      simp only at HTOK
      rcases hk with hk | hk
      · subst hk
        rw [if_pos rfl] at HB
        go_wp2_with fail
        refine (HTOK.out _).mono ?_
        rintro e w1 ⟨rfl, hb1⟩
        have hbel1 : Below w.heap.size w w1 := HBEL.out.trans (hb1.mono HBEL.out.size)
        have hown1 := own_keep HOWN.out (fun k hk => hb1.block k (HOWN.out.lt k hk).2)
        have hlt1 := own_lt hown1
        have HBEL1 := Lib.hid hbel1
        have HOWN1 := Lib.hid hown1
        have HLT := Lib.hid hlt1
        have hsz1 : w.heap.size ≤ w1.heap.size := hbel1.size
        have hnews := sp_news (w1.alloc (.cells #[.int .i64 (7 : Nat), .int .i64 xf, .int .i64 xe, .string xt, .string xs, .int .i64 xi, .bool xb] 34)) ⟨7, xf, xe, xt, xs, xi, xb⟩ 34
        rw [World.size_alloc] at hnews
        have hx : ((w1.alloc (.cells #[.int .i64 (7 : Nat), .int .i64 xf, .int .i64 xe, .string xt, .string xs, .int .i64 xi, .bool xb] 34)).alloc (.cells #[.int .i64 (7 : Nat), .int .i64 xf, .int .i64 xe, .string xt, .string xs, .int .i64 xi, .bool xb] 34)).heap[w1.heap.size]? = some (.cells #[.int .i64 (7 : Nat), .int .i64 xf, .int .i64 xe, .string xt, .string xs, .int .i64 xi, .bool xb] 34 (0, 0)) :=
          (Below.heap_alloc _ _ _ (by simp)).trans (heap_alloc_new w1 _)
        have HX := Lib.hid hx
        have HNEWS := Lib.hid hnews
        have HB2 := Lib.hid (((Below.refl _ w1).alloc (Nat.le_refl _) (.cells #[.int .i64 (7 : Nat), .int .i64 xf, .int .i64 xe, .string xt, .string xs, .int .i64 xi, .bool xb] 34)).alloc (by simp) (.cells #[.int .i64 (7 : Nat), .int .i64 xf, .int .i64 xe, .string xt, .string xs, .int .i64 xi, .bool xb] 34))
        clear hb1 hbel1 hown1 hlt1 hx hnews
        go_upto_region 8 with (fail)
        go_wp2_with (at_builtin; refine wpList_append_own _ rfl _ _ 38 rfl w.heap.size 34 i0 _ 7 72 Tryz.underlying38 hi hz0 hz1 hz2 rfl (by omega) _ _ _ rfl ((HOWN1.out.alloc _).alloc _) ⟨w1.heap.size + 1, 0, none⟩ 1 1 (Sp.cells ⟨7, xf, xe, xt, xs, xi, xb⟩) rfl rfl HNEWS.out (sp_one _) (by unfold maxLen; omega) (by omega) (size_le_alloc2 hsz1 _ _) ?_)
        intro v' w3 hown3 hgrow3 _
        have hx3 := (hgrow3.block w1.heap.size (by simp; omega) (fun e => Nat.lt_irrefl _ (HLT.out _ e.symm))).trans HX.out
        have c2 : w3.cell? ⟨w1.heap.size, 2, none⟩ = some (.int .i64 xe) := cell_of_row _ _ 2 _ _ (0, 0) hx3
        have hbel3 : Below w.heap.size w w3 := (HBEL1.out.trans (HB2.out.mono hsz1)).grown hgrow3 (by simp; omega) (fun k hk => (HOWN1.out.lt k hk).1)
        have HBEL3 := Lib.hid hbel3
        have HOWN3 := Lib.hid hown3
        clear hx3 hbel3 hown3 hgrow3
        go_wp2_with fail
        go_roundw
        case measure => simp [intOf]; omega
        case rel => exact ⟨xe, L ++ [⟨7, xf, xe, xt, xs, xi, xb⟩], _, rfl, by go_num, HB, Lib.hid ⟨l2, HROW.out, by rw [List.length_append, flat_snoc]; exact HOWN3.out, HBEL3.out⟩⟩
      · have q7 : ((xk : Int) == 7) = false := by simp; omega
        rw [if_neg hk, Nat.add_zero] at HB
        clear hk
        go_wp2_with fail
        refine (HTOK.out _).mono ?_
        rintro e w1 ⟨rfl, hb1⟩
        have hbel1 : Below w.heap.size w w1 := HBEL.out.trans (hb1.mono HBEL.out.size)
        have hown1 := own_keep HOWN.out (fun k hk => hb1.block k (HOWN.out.lt k hk).2)
        have hlt1 := own_lt hown1
        have HBEL1 := Lib.hid hbel1
        have HOWN1 := Lib.hid hown1
        have HLT := Lib.hid hlt1
        have hsz1 : w.heap.size ≤ w1.heap.size := hbel1.size
        have hnews := sp_news (w1.alloc (.cells #[.int .i64 (xk : Nat), .int .i64 xf, .int .i64 xe, .string xt, .string xs, .int .i64 xi, .bool xb] 34)) ⟨xk, xf, xe, xt, xs, xi, xb⟩ 34
        rw [World.size_alloc] at hnews
        have hx : ((w1.alloc (.cells #[.int .i64 (xk : Nat), .int .i64 xf, .int .i64 xe, .string xt, .string xs, .int .i64 xi, .bool xb] 34)).alloc (.cells #[.int .i64 (xk : Nat), .int .i64 xf, .int .i64 xe, .string xt, .string xs, .int .i64 xi, .bool xb] 34)).heap[w1.heap.size]? = some (.cells #[.int .i64 (xk : Nat), .int .i64 xf, .int .i64 xe, .string xt, .string xs, .int .i64 xi, .bool xb] 34 (0, 0)) :=
          (Below.heap_alloc _ _ _ (by simp)).trans (heap_alloc_new w1 _)
        have HX := Lib.hid hx
        have HNEWS := Lib.hid hnews
        have HB2 := Lib.hid (((Below.refl _ w1).alloc (Nat.le_refl _) (.cells #[.int .i64 (xk : Nat), .int .i64 xf, .int .i64 xe, .string xt, .string xs, .int .i64 xi, .bool xb] 34)).alloc (by simp) (.cells #[.int .i64 (xk : Nat), .int .i64 xf, .int .i64 xe, .string xt, .string xs, .int .i64 xi, .bool xb] 34))
        clear hb1 hbel1 hown1 hlt1 hx hnews
        go_upto_region 8 with (fail)
        go_wp2_with (at_builtin; refine wpList_append_own _ rfl _ _ 38 rfl w.heap.size 34 i0 _ 7 72 Tryz.underlying38 hi hz0 hz1 hz2 rfl (by omega) _ _ _ rfl ((HOWN1.out.alloc _).alloc _) ⟨w1.heap.size + 1, 0, none⟩ 1 1 (Sp.cells ⟨xk, xf, xe, xt, xs, xi, xb⟩) rfl rfl HNEWS.out (sp_one _) (by unfold maxLen; omega) (by omega) (size_le_alloc2 hsz1 _ _) ?_)
        intro v' w3 hown3 hgrow3 _
        have hx3 := (hgrow3.block w1.heap.size (by simp; omega) (fun e => Nat.lt_irrefl _ (HLT.out _ e.symm))).trans HX.out
        have c2 : w3.cell? ⟨w1.heap.size, 2, none⟩ = some (.int .i64 xe) := cell_of_row _ _ 2 _ _ (0, 0) hx3
        have hbel3 : Below w.heap.size w w3 := (HBEL1.out.trans (HB2.out.mono hsz1)).grown hgrow3 (by simp; omega) (fun k hk => (HOWN1.out.lt k hk).1)
        have HBEL3 := Lib.hid hbel3
        have HOWN3 := Lib.hid hown3
        clear hx3 hbel3 hown3 hgrow3
        go_wp2_with fail
        go_roundw
        case measure => simp [intOf]; omega
        case rel => exact ⟨xe, L ++ [⟨xk, xf, xe, xt, xs, xi, xb⟩], _, rfl, by go_num, HB, Lib.hid ⟨l2, HROW.out, by rw [List.length_append, flat_snoc]; exact HOWN3.out, HBEL3.out⟩⟩
    · have hLR : L = rtoks s := by rw [← t2, rtoksAt_end ha, List.append_nil]
      subst hLR
      have hn1 : n ≤ s.size := by have := HN.out; have := bolds_le (rtoks s); omega
      have hn2 : (n : Int) ≤ 1048576 := by omega
      have p1 : ¬ (a : Int) < s.size := by omega
      have HOWN := Lib.hid t3
      have HBEL := Lib.hid t4
      obtain ⟨A, cl, hv, hA⟩ := own_slice t3 (by omega)
      subst hv
      have hlz : (rtoks s).length ≤ 1048576 := by omega
      obtain ⟨nl, hnl⟩ : ∃ nl, nl = (rtoks s).length := ⟨_, rfl⟩
      rw [← hnl] at hA hlz HOWN ⊢
      have HNL := Lib.hid hnl
      have HA := Lib.hid hA
      clear t2 t3 t4 HT hnl hA hlen
      go_wp2_with fail
      obtain ⟨w2, rfl⟩ : ∃ w2 : World, w2 = wr := ⟨_, rfl⟩
      obtain ⟨pp, hpp⟩ : ∃ pp, pp = n / 2 * 2 := ⟨_, rfl⟩
      have hpi : (n : Int) / 2 * 2 = (pp : Nat) := by omega
      rw [hpi]
      have HPP : Hid (pp = pairsOf (rtoks s)) := Lib.hid (by rw [hpp, HN.out]; rfl)
      have hp2 : (pp : Int) ≤ 1048576 := by omega
      clear hpi hpp
      go_loopw [8, 9, 36] (fun sn v ix wx => ∃ (j m : Nat), ix = .int .i64 j ∧ sn = .int .i64 m ∧ Hid (R2 s w2 j m v wx)) (fun _ _ ix _ => nl - (intOf ix).toNat)
      case atStart => exact ⟨0, 0, rfl, rfl, Lib.hid ⟨Nat.zero_le _, rfl, ⟨rfl, .inl ⟨rfl, rfl⟩⟩, Below.refl _ _⟩⟩
      case round =>
        obtain ⟨j, m, rfl, rfl, HR⟩ := hrel
        have hjl : j ≤ nl := by have := HR.out.le; have := HNL.out; omega
        by_cases hj : j < nl
        · have hj2 : j < (rtoks s).length := by rw [← HNL.out]; exact hj
          obtain ⟨g, rfl, hA1, hA2⟩ := HA.out (by omega)
          obtain ⟨X, hX⟩ : ∃ X, X = (rtoks s)[j] := ⟨_, rfl⟩
          have hcell : ∀ c u, c < 7 → X.cells[c]? = some u → wr.cell? ⟨g, j * 7 + c, none⟩ = some u := by
            intro c u hc hu
            have h1 := (HOWN.out.cellAt (j * 7 + c) (by rw [HNL.out]; omega))
            have h2 := flat_at (rtoks s) j hj2 c hc
            rw [← hX, hu] at h2
            exact ((HR.out.bel.cell (p := ⟨g, j * 7 + c, none⟩) (HOWN.out.lt g rfl).2).trans h1).trans h2
          have hX2 := hX
          have HX := Lib.hid hX2
          obtain ⟨a2, ha2, hXa⟩ := rtok_at hj2
          obtain ⟨b1, b2, b3, b4⟩ := refTok_text ha2
          rw [← hXa, ← hX] at b1 b2 b3 b4
          obtain ⟨s1, s2⟩ := at_step hj2
          rw [← hX, ← HPP.out, ← HR.out.seen] at s1
          rw [← hX, ← HR.out.seen] at s2
          obtain ⟨o1, o2⟩ := out_len s j (by omega)
          rw [← HR.out.seen] at o2
          have HS1 := Lib.hid s1
          have HS2 := Lib.hid s2
          have hm2 : (m : Int) ≤ 1048576 := by omega
          clear hX hX2 hXa s1 s2
          obtain ⟨xk, xf, xe, xt, xs, xi, xb⟩ := X
          simp only at b1 b2 b3 b4
          have e0 := hcell 0 _ (by omega) rfl
          have e1 := hcell 1 _ (by omega) rfl
          have e2 := hcell 2 _ (by omega) rfl
          have e3 := hcell 3 _ (by omega) rfl
          have e4 := hcell 4 _ (by omega) rfl
          have e5 := hcell 5 _ (by omega) rfl
          have e6 := hcell 6 _ (by omega) rfl
          have HBOX := Lib.hid (HR.out.box ⟨xk, xf, xe, xt, xs, xi, xb⟩)
          clear hcell
          simp only [Nat.add_zero] at e0
          go_upto_if 42 with (fail)
          go_cut [8] (fun sv wx => ∃ m' : Nat, sv = .int .i64 m' ∧ Hid (m' = (if xk = 7 then m + 1 else m)) ∧ Hid (M2 s w2 j wr.heap.size { (⟨xk, xf, xe, xt, xs, xi, xb⟩ : Sp) with kind := newKind pp m xk } u9 wx))
          case first =>
            clear e0 e1 e2 e3 e4 e5 e6
            by_cases h7 : xk = 7
            · subst h7
              by_cases h8 : pp < m + 1
              · have HK1 : Hid (newKind pp m 7 = 1) := Lib.hid (by unfold newKind; rw [if_pos ⟨rfl, h8⟩])
                have q8 : (pp : Int) < (m : Int) + 1 := by omega
                clear h8
                go_wp2_with fail
                go_meet
                exact ⟨m + 1, by go_num, Lib.hid (by simp), Lib.hid (by rw [HK1.out]; exact HR.out.box ⟨1, xf, xe, xt, xs, xi, xb⟩)⟩
              · have HK1 : Hid (newKind pp m 7 = 7) := Lib.hid (by unfold newKind; rw [if_neg (fun e => h8 e.2)])
                have q8 : ¬ (pp : Int) < (m : Int) + 1 := by omega
                clear h8
                go_wp2_with fail
                go_meet
                exact ⟨m + 1, by go_num, Lib.hid (by simp), Lib.hid (by rw [HK1.out]; exact HBOX.out)⟩
            · have HK1 : Hid (newKind pp m xk = xk) := Lib.hid (by unfold newKind; rw [if_neg (fun e => h7 e.1)])
              have q7 : ((xk : Int) == 7) = false := by simp; omega
              have H7 := Lib.hid h7
              clear h7
              go_wp2_with fail
              go_meet
              exact ⟨m, rfl, Lib.hid (by simp [H7.out]), Lib.hid (by rw [HK1.out]; exact HBOX.out)⟩
          case rest =>
            obtain ⟨m', rfl, HM1, HM2⟩ := hcut
            obtain ⟨k', hk'⟩ : ∃ k', k' = newKind pp m xk := ⟨_, rfl⟩
            rw [← hk'] at HM2
            have hmk := marked_is pp m ⟨xk, xf, xe, xt, xs, xi, xb⟩
            simp only at hmk
            rw [← hk', ← HM1.out] at hmk
            have hk7 : k' ≤ 7 := by rw [hk']; unfold newKind; split <;> omega
            have hm3 : m' ≤ m + 1 := by rw [HM1.out]; split <;> omega
            have hm4 : (m' : Int) ≤ 2000000 := by omega
            obtain ⟨st, hst⟩ : ∃ st, st = (if k' = 7 then true else decide (m' % 2 = 1 ∧ m' ≤ pp)) := ⟨_, rfl⟩
            rw [← hst] at hmk
            have HMK := Lib.hid hmk
            have HM1' := Lib.hid HM1.out
            clear e0 e1 e2 e3 e4 e5 e6 hmk HBOX HM1 hk'
            obtain ⟨w4, rfl⟩ : ∃ w4 : World, w4 = wc := ⟨_, rfl⟩
            have hblk := HM2.out.blk
            simp only at hblk
            obtain ⟨⟨d0, d1, d2, d3, d4, d5, d6⟩, fz0, fz1, fz2, fz3, fz4, fz5, fz6⟩ := blk7 hblk
            clear hblk
            go_upto_region 20 with (fail)
            go_cut [61] (fun _ wx => Hid (M2 s w2 j wr.heap.size (⟨k', xf, xe, xt, xs, xi, st⟩ : Sp) u9 wx))
            case first =>
              by_cases h7 : k' = 7
              · subst h7
                have hst2 : st = true := by rw [hst]; simp
                subst hst2
                clear hst
                go_wp2_with fail
                go_meet
                exact Lib.hid (HM2.out.strong true)
              · have q7 : ((k' : Int) == 7) = false := by simp; omega
                obtain ⟨o, ho⟩ : ∃ o, o = decide (m' % 2 = 1) := ⟨_, rfl⟩
                have hst2 : st = (o && decide (m' ≤ pp)) := by
                  rw [hst, if_neg h7, ho, Bool.eq_iff_iff]; simp
                have y1 : ((m' : Int) % 2 == 1) = o := by rw [ho, Bool.eq_iff_iff]; simp; omega
                subst hst2
                clear hst ho h7
                cases o
                · go_wp2_with fail
                  go_meet
                  exact Lib.hid (HM2.out.strong false)
                · go_wp2_with fail
                  go_meet
                  exact Lib.hid (HM2.out.strong (decide (m' ≤ pp)))
            case rest =>
              clear d0 d1 d2 d3 d4 d5 d6 fz0 fz1 fz2 fz3 fz4 fz5 fz6 HM2
              obtain ⟨w5, rfl⟩ : ∃ w5 : World, w5 = wc := ⟨_, rfl⟩
              have HM5 := Lib.hid hcut.out
              have hown5 := hcut.out.own
              obtain ⟨A2, c2, hv2, hA2'⟩ := own_slice hown5 (by omega)
              subst hv2
              obtain ⟨n2, hn2'⟩ : ∃ n2, n2 = (outAt s j).length := ⟨_, rfl⟩
              have hn3 : n2 ≤ 1048576 := by omega
              have HN2 := Lib.hid hn2'
              rw [← hn2'] at hA2' ⊢
              have HA2 := Lib.hid hA2'
              have hblk := hcut.out.blk
              simp only at hblk
              obtain ⟨⟨d0, d1, d2, d3, d4, d5, d6⟩, fz0, fz1, fz2, fz3, fz4, fz5, fz6⟩ := blk7 hblk
              have HBLK := Lib.hid hblk
              clear hcut hown5 hA2' hn2' hblk hst o1
              go_upto_region 22 with (fail)
              have hd2 : outAt s j = [] ∨ ∃ z, (outAt s j).getLast? = some z := by
                cases h : (outAt s j).getLast? with
                | none => exact .inl (List.getLast?_eq_none_iff.1 h)
                | some z => exact .inr ⟨z, rfl⟩
              rcases hd2 with hd2 | ⟨z, hz⟩
              · have h0 : n2 = 0 := by have := HN2.out; rw [hd2] at this; exact this
                subst h0
                have HJ : Hid (joins (outAt s j) ⟨k', xf, xe, xt, xs, xi, st⟩ = false) := Lib.hid (by rw [hd2]; rfl)
                clear hd2
                go_quiet (fail)
                obtain ⟨w6, hw6⟩ : ∃ w6, w6 = w5.drewN nq := ⟨_, rfl⟩
                have hm6 := HM5.out.drewN nq
                rw [← hw6] at hm6 ⊢
                have HM6 := Lib.hid hm6
                have hb6 := hm6.blk
                simp only at hb6
                obtain ⟨⟨y0, y1, y2, y3, y4, y5, y6⟩, -⟩ := blk7 hb6
                have hnews := sp_news w6 ⟨k', xf, xe, xt, xs, xi, st⟩ 34
                have HNEWS := Lib.hid hnews
                have hsz6 : w2.heap.size ≤ w6.heap.size := hm6.bel.size
                have HOWN6 : Hid (w6.ownsRow w2.heap.size 34 7 (.slice A2 0 c2) 0 ((outAt s j).flatMap Sp.cells)) := Lib.hid (by have h := hm6.own; rw [← HN2.out] at h; exact h)
                clear hw6 hm6 hb6 hnews d0 d1 d2 d3 d4 d5 d6 fz0 fz1 fz2 fz3 fz4 fz5 fz6
                go_upto_region 25 with (fail)
                go_wp2_with (at_builtin; refine wpList_append_own _ rfl _ _ 38 rfl w2.heap.size 34 i0 _ 7 72 Tryz.underlying38 hi hz0 hz1 hz2 rfl (by omega) _ _ _ rfl (HOWN6.out.alloc _) ⟨w6.heap.size, 0, none⟩ 1 1 (Sp.cells ⟨k', xf, xe, xt, xs, xi, st⟩) rfl rfl HNEWS.out (sp_one _) (by unfold maxLen; omega) (by omega) (by simp; omega) ?_)
                intro v' w7 hown7 hgrow7 _
                have hbel7 : Below w2.heap.size w2 w7 := (HM6.out.bel.alloc hsz6 _).grown hgrow7 (by simp; omega) (fun k hk => (HOWN6.out.lt k hk).1)
                have HBEL7 := Lib.hid hbel7
                have HOWN7 := Lib.hid hown7
                clear hown7 hgrow7 hbel7 y0 y1 y2 y3 y4 y5 y6
                go_wp2_with fail
                go_roundw
                case measure => simp [intOf]; omega
                case rel =>
                  refine ⟨j + 1, m', by go_num, rfl, Lib.hid ⟨hj2, by rw [HM1'.out, HS2.out], ?_, HBEL7.out⟩⟩
                  rw [HS1.out, HMK.out, put_new HJ.out, List.length_append, flat_snoc]
                  have h := HOWN7.out
                  have h9 := HN2.out
                  rw [← h9]
                  exact h
              · obtain ⟨q, hq⟩ : ∃ q, n2 = q + 1 := ⟨n2 - 1, by
                  have := HN2.out
                  have h2 := last_split hz
                  rw [h2] at this; simp at this; omega⟩
                subst hq
                obtain ⟨g2, hg2, gc1, gc2⟩ := HA2.out (by omega)
                subst hg2
                obtain ⟨init, hinit⟩ : ∃ init, init = (outAt s j).dropLast := ⟨_, rfl⟩
                have hsp : outAt s j = init ++ [z] := by rw [hinit]; exact last_split hz
                have hil : init.length = q := by have := HN2.out; rw [hsp] at this; simp at this; omega
                have hzc : ∀ c u, c < 7 → z.cells[c]? = some u → w5.cell? ⟨g2, q * 7 + c, none⟩ = some u := by
                  intro c u hc hu
                  have h0 := HM5.out.own
                  rw [← HN2.out] at h0
                  have h1 := h0.cellAt (q * 7 + c) (by omega)
                  have h2 := flat_at (outAt s j) q (by rw [← HN2.out]; omega) c hc
                  have h3 : (outAt s j)[q]'(by rw [← HN2.out]; omega) = z := by
                    simp only [hsp]
                    rw [List.getElem_append_right (by omega)]; simp
                  rw [h3, hu] at h2
                  exact h1.trans h2
                have hzt : z.kind = 1 → z.text.size ≤ s.size := fun h => last_plain (by omega) hz h
                have HZ := Lib.hid hz
                have HSP := Lib.hid hsp
                have HIL := Lib.hid hil
                have HZT := Lib.hid hzt
                have z0 := hzc 0 _ (by omega) rfl
                have z2 := hzc 2 _ (by omega) rfl
                have z3 := hzc 3 _ (by omega) rfl
                have z6 := hzc 6 _ (by omega) rfl
                simp only [Nat.add_zero] at z0
                have HZ2 := Lib.hid z2
                have HZ3 := Lib.hid z3
                clear hz hinit hsp hil hzc hzt HA2 z2 z3
                by_cases hk1 : k' = 1
                case neg =>
                  have qk : ((k' : Int) == 1) = false := by simp; omega
                  have HJ : Hid (joins (outAt s j) ⟨k', xf, xe, xt, xs, xi, st⟩ = false) := Lib.hid (by
                    unfold joins; rw [HZ.out]
                    have : (k' == 1) = false := by simpa using hk1
                    simp [this])
                  clear hk1
                  go_quiet (fail)
                  obtain ⟨w6, hw6⟩ : ∃ w6, w6 = w5.drewN nq := ⟨_, rfl⟩
                  have hm6 := HM5.out.drewN nq
                  rw [← hw6] at hm6 ⊢
                  have HM6 := Lib.hid hm6
                  have hb6 := hm6.blk
                  simp only at hb6
                  obtain ⟨⟨y0, y1, y2, y3, y4, y5, y6⟩, -⟩ := blk7 hb6
                  have hnews := sp_news w6 ⟨k', xf, xe, xt, xs, xi, st⟩ 34
                  have HNEWS := Lib.hid hnews
                  have hsz6 : w2.heap.size ≤ w6.heap.size := hm6.bel.size
                  have HOWN6 : Hid (w6.ownsRow w2.heap.size 34 7 (.slice (some ⟨g2, 0, none⟩) (q + 1) c2) (q + 1) ((outAt s j).flatMap Sp.cells)) := Lib.hid (by have h := hm6.own; rw [← HN2.out] at h; exact h)
                  clear hw6 hm6 hb6 hnews d0 d1 d2 d3 d4 d5 d6 fz0 fz1 fz2 fz3 fz4 fz5 fz6 z0 z6
                  go_upto_region 25 with (fail)
                  go_wp2_with (at_builtin; refine wpList_append_own _ rfl _ _ 38 rfl w2.heap.size 34 i0 _ 7 72 Tryz.underlying38 hi hz0 hz1 hz2 rfl (by omega) _ _ _ rfl (HOWN6.out.alloc _) ⟨w6.heap.size, 0, none⟩ 1 1 (Sp.cells ⟨k', xf, xe, xt, xs, xi, st⟩) rfl rfl HNEWS.out (sp_one _) (by unfold maxLen; omega) (by omega) (by simp; omega) ?_)
                  intro v' w7 hown7 hgrow7 _
                  have hbel7 : Below w2.heap.size w2 w7 := (HM6.out.bel.alloc hsz6 _).grown hgrow7 (by simp; omega) (fun k hk => (HOWN6.out.lt k hk).1)
                  have HBEL7 := Lib.hid hbel7
                  have HOWN7 := Lib.hid hown7
                  clear hown7 hgrow7 hbel7 y0 y1 y2 y3 y4 y5 y6
                  go_wp2_with fail
                  go_roundw
                  case measure => simp [intOf]; omega
                  case rel =>
                    refine ⟨j + 1, m', by go_num, rfl, Lib.hid ⟨hj2, by rw [HM1'.out, HS2.out], ?_, HBEL7.out⟩⟩
                    rw [HS1.out, HMK.out, put_new HJ.out, List.length_append, flat_snoc]
                    have h := HOWN7.out
                    have h9 := HN2.out
                    rw [← h9]
                    exact h
                case pos =>
                  subst hk1
                  by_cases hzk : z.kind = 1
                  case neg =>
                    have qz : ((z.kind : Int) == 1) = false := by simp; omega
                    have HJ : Hid (joins (outAt s j) ⟨1, xf, xe, xt, xs, xi, st⟩ = false) := Lib.hid (by
                      unfold joins; rw [HZ.out]
                      have : (z.kind == 1) = false := by simpa using hzk
                      simp [this])
                    clear hzk
                    go_quiet (fail)
                    obtain ⟨w6, hw6⟩ : ∃ w6, w6 = w5.drewN nq := ⟨_, rfl⟩
                    have hm6 := HM5.out.drewN nq
                    rw [← hw6] at hm6 ⊢
                    have HM6 := Lib.hid hm6
                    have hb6 := hm6.blk
                    simp only at hb6
                    obtain ⟨⟨y0, y1, y2, y3, y4, y5, y6⟩, -⟩ := blk7 hb6
                    have hnews := sp_news w6 ⟨1, xf, xe, xt, xs, xi, st⟩ 34
                    have HNEWS := Lib.hid hnews
                    have hsz6 : w2.heap.size ≤ w6.heap.size := hm6.bel.size
                    have hown6 := hm6.own
                    rw [← HN2.out] at hown6
                    have HOWN6 := Lib.hid hown6
                    clear hown6
                    clear hw6 hm6 hb6 hnews d0 d1 d2 d3 d4 d5 d6 fz0 fz1 fz2 fz3 fz4 fz5 fz6 z0 z6
                    go_upto_region 25 with (fail)
                    go_wp2_with (at_builtin; refine wpList_append_own _ rfl _ _ 38 rfl w2.heap.size 34 i0 _ 7 72 Tryz.underlying38 hi hz0 hz1 hz2 rfl (by omega) _ _ _ rfl (HOWN6.out.alloc _) ⟨w6.heap.size, 0, none⟩ 1 1 (Sp.cells ⟨1, xf, xe, xt, xs, xi, st⟩) rfl rfl HNEWS.out (sp_one _) (by unfold maxLen; omega) (by omega) (by simp; omega) ?_)
                    intro v' w7 hown7 hgrow7 _
                    have hbel7 : Below w2.heap.size w2 w7 := (HM6.out.bel.alloc hsz6 _).grown hgrow7 (by simp; omega) (fun k hk => (HOWN6.out.lt k hk).1)
                    have HBEL7 := Lib.hid hbel7
                    have HOWN7 := Lib.hid hown7
                    clear hown7 hgrow7 hbel7 y0 y1 y2 y3 y4 y5 y6
                    go_wp2_with fail
                    go_roundw
                    case measure => simp [intOf]; omega
                    case rel =>
                      refine ⟨j + 1, m', by go_num, rfl, Lib.hid ⟨hj2, by rw [HM1'.out, HS2.out], ?_, HBEL7.out⟩⟩
                      rw [HS1.out, HMK.out, put_new HJ.out, List.length_append, flat_snoc]
                      have h := HOWN7.out
                      have h9 := HN2.out
                      rw [← h9]
                      exact h
                  case pos =>
                    rw [hzk] at z0
                    by_cases hzs : z.strong = st
                    case neg =>
                      have qs : (z.strong == st) = false := by simpa using hzs
                      have HJ : Hid (joins (outAt s j) ⟨1, xf, xe, xt, xs, xi, st⟩ = false) := Lib.hid (by
                        unfold joins; rw [HZ.out]
                        simp [qs])
                      clear hzs
                      go_quiet (fail)
                      clear qs
                      obtain ⟨w6, hw6⟩ : ∃ w6, w6 = w5.drewN nq := ⟨_, rfl⟩
                      have hm6 := HM5.out.drewN nq
                      rw [← hw6] at hm6 ⊢
                      have HM6 := Lib.hid hm6
                      have hb6 := hm6.blk
                      simp only at hb6
                      obtain ⟨⟨y0, y1, y2, y3, y4, y5, y6⟩, -⟩ := blk7 hb6
                      have hnews := sp_news w6 ⟨1, xf, xe, xt, xs, xi, st⟩ 34
                      have HNEWS := Lib.hid hnews
                      have hsz6 : w2.heap.size ≤ w6.heap.size := hm6.bel.size
                      have hown6 := hm6.own
                      rw [← HN2.out] at hown6
                      have HOWN6 := Lib.hid hown6
                      clear hown6
                      clear hw6 hm6 hb6 hnews d0 d1 d2 d3 d4 d5 d6 fz0 fz1 fz2 fz3 fz4 fz5 fz6 z0 z6
                      go_upto_region 25 with (fail)
                      go_wp2_with (at_builtin; refine wpList_append_own _ rfl _ _ 38 rfl w2.heap.size 34 i0 _ 7 72 Tryz.underlying38 hi hz0 hz1 hz2 rfl (by omega) _ _ _ rfl (HOWN6.out.alloc _) ⟨w6.heap.size, 0, none⟩ 1 1 (Sp.cells ⟨1, xf, xe, xt, xs, xi, st⟩) rfl rfl HNEWS.out (sp_one _) (by unfold maxLen; omega) (by omega) (by simp; omega) ?_)
                      intro v' w7 hown7 hgrow7 _
                      have hbel7 : Below w2.heap.size w2 w7 := (HM6.out.bel.alloc hsz6 _).grown hgrow7 (by simp; omega) (fun k hk => (HOWN6.out.lt k hk).1)
                      have HBEL7 := Lib.hid hbel7
                      have HOWN7 := Lib.hid hown7
                      clear hown7 hgrow7 hbel7 y0 y1 y2 y3 y4 y5 y6
                      go_wp2_with fail
                      go_roundw
                      case measure => simp [intOf]; omega
                      case rel =>
                        refine ⟨j + 1, m', by go_num, rfl, Lib.hid ⟨hj2, by rw [HM1'.out, HS2.out], ?_, HBEL7.out⟩⟩
                        rw [HS1.out, HMK.out, put_new HJ.out, List.length_append, flat_snoc]
                        have h := HOWN7.out
                        have h9 := HN2.out
                        rw [← h9]
                        exact h
                    case pos =>
                      rw [hzs] at z6
                      have qs : (st == st) = true := by simp
                      have HJ : Hid (joins (outAt s j) ⟨1, xf, xe, xt, xs, xi, st⟩ = true) := Lib.hid (by
                        unfold joins; rw [HZ.out]
                        simp [hzk, hzs])
                      have hztz := HZT.out hzk
                      clear hzk hzs
                      go_quiet (fail)
                      obtain ⟨w6, hw6⟩ : ∃ w6, w6 = w5.drewN nq := ⟨_, rfl⟩
                      have hm6 := HM5.out.drewN nq
                      have y2 : w6.cell? ⟨g2, q * 7 + 2, none⟩ = some (.int .i64 z.to_) := by rw [hw6]; exact HZ2.out
                      have y3 : w6.cell? ⟨g2, q * 7 + 3, none⟩ = some (.string z.text) := by rw [hw6]; exact HZ3.out
                      rw [← hw6] at hm6 ⊢
                      have hown6 := hm6.own
                      rw [← HN2.out] at hown6
                      have fr2 := hown6.frozenAt (q * 7 + 2)
                      have fr3 := hown6.frozenAt (q * 7 + 3)
                      have hne : g2 ≠ wr.heap.size := hm6.ne g2 rfl
                      have hb6 := hm6.blk
                      simp only at hb6
                      obtain ⟨⟨-, -, x2, x3, -, -, -⟩, -⟩ := blk7 hb6
                      have HM6 := Lib.hid hm6
                      have HOWN6 := Lib.hid hown6
                      have hcat : z.text.size + xt.size ≤ 4000000 := by omega
                      clear hw6 hm6 hb6 hown6 d0 d1 d2 d3 d4 d5 d6 fz0 fz1 fz2 fz3 fz4 fz5 fz6 z0 z6
                      go_upto_region 24 with (fail)
                      go_region
                      go_wp2_with fail
                      go_roundw
                      case measure => simp [intOf]; omega
                      case rel =>
                        refine ⟨j + 1, m', by go_num, rfl, Lib.hid ⟨hj2, by rw [HM1'.out, HS2.out], ?_, ?_⟩⟩
                        · have h := ((HOWN6.out.stored (q * 7 + 2) (.int .i64 xe)).1.stored (q * 7 + 3) (.string (z.text ++ xt))).1
                          have hout : outAt s (j + 1) = init ++ [{ z with to_ := xe, text := z.text ++ xt }] := by
                            rw [HS1.out, HMK.out]
                            unfold putSp
                            rw [if_pos HJ.out]
                            unfold joined
                            rw [HZ.out, HSP.out, List.dropLast_concat]
                          have h9 := flat_set init z xe (z.text ++ xt)
                          rw [HSP.out, ← HIL.out, h9] at h
                          rw [hout, List.length_append, List.length_singleton, HIL.out]
                          rw [HIL.out] at h
                          exact own_keep h (fun _ _ => rfl)
                        · exact ((HM6.out.bel.setCell (HOWN6.out.lt g2 rfl).1 _).setCell (HOWN6.out.lt g2 rfl).1 _).drew
        · have hjn : j = nl := by omega
          have q1 : ¬ (j : Int) < nl := by omega
          have HE : Hid (outAt s j = spans s) := Lib.hid (by rw [hjn, HNL.out]; exact out_end s)
          clear hj hjn
          go_wp2_with fail
          go_ret
          refine ⟨_, rfl, ?_, ?_⟩
          · have h := HR.out.own
            rw [HE.out] at h
            exact own_base h HBEL.out.size
          · exact HBEL.out.trans (HR.out.bel.mono HBEL.out.size)
end Go.Proofs.YticdapkljbillaaGreatDoor
