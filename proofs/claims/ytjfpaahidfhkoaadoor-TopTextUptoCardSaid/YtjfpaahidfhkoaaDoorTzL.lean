/- The reference's SourceOf. -/
import Derived.Test.YtjfpaahidfhkoaaDoorTzK
import Derived.Laws.AppendOwnNone
import Derived.WalkKit
import Derived.Lib.Hide
import Derived.Outline
import Derived.Deep.DeepCutAuto
import Derived.Deep.CutBlock
import Derived.Deep.LoopGhost
import Derived.Deep.QuietTactic
import Derived.BigQuiet
import Derived.BigRegion
import Derived.Lib.SmallJoins
namespace Go.Proofs.YtjfpaahidfhkoaaDoor
open Go.RowKit

theorem row_len {s : ByteArray} : ∀ {a b : Nat} {l : List Sp}, SpRow s a l b → l.length + a ≤ b
  | a, b, [], h => by have : a = b := h; simp; omega
  | a, b, x :: r, h => by
    have h1 := row_len h.2.2
    have h2 := h.2.1.lt
    have h3 := h.1
    simp only [List.length_cons]; omega
theorem spans_len (s : ByteArray) : (spans s).length ≤ s.size := by have := row_len (spans_row s); omega
theorem spans_in (s : ByteArray) : ∀ x ∈ spans s, SpIn s x := (spans_row s).mem
theorem allL_le (s : ByteArray) (j : Nat) : (allL ((spans s).take j)).length ≤ s.size := by
  have h1 := (srcAfter_bound (s := s) (-1) (pre := (spans s).take j) (post := (spans s).drop j) (List.take_append_drop j _).symm).2
  have h2 := src_fold (s := s) (n := -1) ((spans s).take j) 0 0 true (fun x hx => spans_ref s x (List.mem_of_mem_take hx)) (fun e => by cases e)
  have e : ∀ f, (((spans s).take j).foldl (srcStep (-1)) (0, 0, f)).1 = (((spans s).take j).foldl (srcStep (-1)) (0, 0, true)).1 := by
    have g : ∀ (l : List Sp) (b r r' : Int) (f f' : Bool), (l.foldl (srcStep (-1)) (b, r, f)).1 = (l.foldl (srcStep (-1)) (b, r', f')).1 := by
      intro l
      induction l with
      | nil => intros; rfl
      | cons x l ih =>
        intro b r r' f f'
        rw [List.foldl_cons, List.foldl_cons]
        unfold srcStep
        exact ih _ _ _ _ _
    intro f; exact g _ _ _ _ _ _
  unfold srcAfter at h1
  rw [e false, h2] at h1
  simp only at h1
  omega
theorem allL_take {s : ByteArray} {j : Nat} (h : j < (spans s).length) : allL ((spans s).take (j + 1)) = allL ((spans s).take j) ++ upL (refFrom (spans s)[j]) (refStr (spans s)[j]).size := by
  rw [List.take_succ_eq_append_getElem h]
  unfold allL
  rw [List.flatMap_append]
  simp only [List.flatMap_cons, List.flatMap_nil, List.append_nil]
  rfl

/-- At the head of each round. -/
structure SrcRow (s : ByteArray) (w2 : World) (j : Nat) (v : Value) (wx : World) : Prop where
  le : j ≤ (spans s).length
  own : wx.ownsRow w2.heap.size 3 1 v (allL ((spans s).take j)).length (ints (allL ((spans s).take j)))
  bel : Below w2.heap.size w2 wx

set_option maxRecDepth 100000 in
set_option maxHeartbeats 8000000 in
theorem sourceOf_any (s : ByteArray) (n : Int) (w : World) (hs : s.size ≤ 1048576) :
    Calls Tryd.prog 8 #[.string s, .int .i64 n] w (Quiet w (.tuple #[.int .i64 (refSource s n).1, .int .i64 (refSource s n).2])) := by
  obtain ⟨i0, hi, hz0, hz1, hz2⟩ := info_parts infoInt
  obtain ⟨R, hR⟩ : ∃ R, R = refSource s n := ⟨_, rfl⟩
  rw [← hR]
  have HRES := Lib.hid hR
  clear hR
  go_enter Tryd.func8, Tryd.ntmps8
  go_wp2_with fail
  refine (spansOf_any s _ hs).mono ?_
  rintro e1 w2 ⟨v1, rfl, hown, hbel⟩
  obtain ⟨A, c, rfl, hA⟩ := own_slice hown (by omega)
  have HOWN := Lib.hid hown
  have HBEL := Lib.hid hbel
  have hlz := spans_len s
  obtain ⟨nl, hnl⟩ : ∃ nl, nl = (spans s).length := ⟨_, rfl⟩
  rw [← hnl] at hA hlz HOWN ⊢
  have HNL := Lib.hid hnl
  have HA := Lib.hid hA
  clear hown hbel hnl hA
  have hnl2 : (nl : Int) ≤ 1048576 := by omega
  go_wp2_with fail
  go_loopw [6, 14] (fun v ix wx => ∃ (j : Nat), ix = .int .i64 j ∧ Hid (SrcRow s w2 j v wx)) (fun _ ix _ => nl - (intOf ix).toNat)
  case atStart => exact ⟨0, rfl, Lib.hid ⟨Nat.zero_le _, ⟨rfl, .inl ⟨rfl, rfl⟩⟩, Below.refl _ _⟩⟩
  case round =>
    obtain ⟨j, rfl, HR⟩ := hrel
    have hjl : j ≤ nl := by have := HR.out.le; have := HNL.out; omega
    by_cases hj : j < nl
    · have hj2 : j < (spans s).length := by rw [← HNL.out]; exact hj
      have p1 : (j : Int) < nl := by omega
      obtain ⟨g, rfl, hA1, hA2⟩ := HA.out (by omega)
      obtain ⟨X, hX⟩ : ∃ X, X = (spans s)[j] := ⟨_, rfl⟩
      have hcell : ∀ c u, c < 7 → X.cells[c]? = some u → wr.cell? ⟨g, j * 7 + c, none⟩ = some u := by
        intro c u hc hu
        have h1 := (HOWN.out.cellAt (j * 7 + c) (by rw [HNL.out]; omega))
        have h2 := flat_at (spans s) j hj2 c hc
        rw [← hX, hu] at h2
        exact ((HR.out.bel.cell (p := ⟨g, j * 7 + c, none⟩) (HOWN.out.lt g rfl).2).trans h1).trans h2
      have hmem : X ∈ spans s := by rw [hX]; exact List.getElem_mem _
      have hin := spans_in s X hmem
      have href := spans_ref s X hmem
      have ht := allL_take hj2
      rw [← hX] at ht
      have hle := allL_le s (j + 1)
      rw [ht, List.length_append, upL_len] at hle
      have HSH : Hid (∀ W, Calls Tryd.prog 28 #[X.val] W fun e w' => ∃ v, e = .returned (.tuple #[.string (refStr X), v]) ∧ ShownRow (refFrom X) (refStr X).size W v w') :=
        Lib.hid (fun W => shown_any X W href.kind (by have := href.bound; omega) (by have := hin.lt; have := hin.hi; omega) (by have := hin.text; omega) (by have := hin.shw; omega))
      have HT := Lib.hid ht
      obtain ⟨F, hF⟩ : ∃ F, F = refFrom X := ⟨_, rfl⟩
      obtain ⟨S, hS⟩ : ∃ S, S = refStr X := ⟨_, rfl⟩
      rw [← hF, ← hS] at HSH HT
      rw [← hS] at hle
      obtain ⟨L, hL⟩ : ∃ L, L = allL ((spans s).take j) := ⟨_, rfl⟩
      rw [← hL] at hle HT
      have HOWNJ : Hid (wr.ownsRow w2.heap.size 3 1 u6 L.length (ints L)) := Lib.hid (by rw [hL]; exact HR.out.own)
      have HBELJ := Lib.hid HR.out.bel
      have HLL := Lib.hid (ints_len L)
      clear hX hmem hin href ht hF hS hL HR
      obtain ⟨xk, xf, xe, xt, xs, xi, xb⟩ := X
      have e0 := hcell 0 _ (by omega) rfl
      have e1 := hcell 1 _ (by omega) rfl
      have e2 := hcell 2 _ (by omega) rfl
      have e3 := hcell 3 _ (by omega) rfl
      have e4 := hcell 4 _ (by omega) rfl
      have e5 := hcell 5 _ (by omega) rfl
      have e6 := hcell 6 _ (by omega) rfl
      unfold Sp.val at HSH
      simp only at HSH
      clear hcell
      simp only [Nat.add_zero] at e0
      go_upto_region 5 with (fail)
      have hsz : w2.heap.size ≤ wr.heap.size := HBELJ.out.size
      obtain ⟨w3, hw3⟩ : ∃ w3, w3 = wr.alloc (.cells #[.int .i64 xk, .int .i64 xf, .int .i64 xe, .string xt, .string xs, .int .i64 xi, .bool xb] 34) := ⟨_, rfl⟩
      have hown3 : w3.ownsRow w2.heap.size 3 1 u6 L.length (ints L) := by rw [hw3]; exact HOWNJ.out.alloc _
      have hbel3 : Below w2.heap.size w2 w3 := by rw [hw3]; exact HBELJ.out.alloc hsz _
      have hblk : w3.heap[wr.heap.size]? = some (.cells #[.int .i64 xk, .int .i64 xf, .int .i64 xe, .string xt, .string xs, .int .i64 xi, .bool xb] 34 (0, 0)) := by rw [hw3]; exact heap_alloc_new wr _
      rw [← hw3]
      have HOWN3 := Lib.hid hown3
      have HBEL3 := Lib.hid hbel3
      obtain ⟨⟨y0, y1, y2, y3, y4, y5, y6⟩, -⟩ := blk7 hblk
      clear hw3 hown3 hbel3 hblk e0 e1 e2 e3 e4 e5 e6
      go_wp2_with fail
      refine (HSH.out _).mono ?_
      rintro e4 w4 ⟨l, rfl, hl, hbel4⟩
      have hown4 := own_keep HOWN3.out (fun k hk => hbel4.block k (HOWN3.out.lt k hk).2)
      have hsz3 := HBEL3.out.size
      have hbel4' : Below w2.heap.size w2 w4 := HBEL3.out.trans (hbel4.mono hsz3)
      have HOWN4 := Lib.hid hown4
      have HBEL4 := Lib.hid hbel4'
      have hsz4 := hbel4'.size
      have HSO : Hid (s.size ≤ 1048576 ∧ L.length + S.size ≤ s.size) := Lib.hid ⟨hs, hle⟩
      rcases hl.2 with ⟨h0, hS0⟩ | ⟨g2, cap, cur, h0, hrest⟩
      · subst h0
        have HT2 : Hid (allL ((spans s).take (j + 1)) = L) := Lib.hid (by rw [HT.out, hS0]; simp [upL])
        clear hown4 hbel4 hbel4' hl hS0 y0 y1 y2 y3 y4 y5 y6
        go_wp2_with (at_builtin; refine wpList_append_own_none rfl _ _ 54 rfl w2.heap.size 3 i0 1 Tryd.underlying54 hi _ _ _ rfl HOWN4.out rfl ?_)
        go_wp2_with fail
        go_roundw
        case measure => simp [intOf]; omega
        case rel => exact ⟨j + 1, by go_num, Lib.hid ⟨hj2, by rw [HT2.out]; exact HOWN4.out, HBEL4.out⟩⟩
      · subst h0
        have hnews : ∀ q u, (ints (upL F S.size))[q]? = some u → w4.cell? ((⟨g2, 0, none⟩ : Addr).add q) = some u := by
          intro q u hq
          have hlt : q < S.size := by
            have := (List.getElem?_eq_some_iff.1 hq).1
            rw [ints_len, upL_len] at this; exact this
          have h1 := hl.cellAt q (by omega)
          rw [addr_plus, Nat.zero_add]
          exact h1.trans hq
        have HNEWS := Lib.hid hnews
        have HUL : Hid ((ints (upL F S.size)).length = S.size * 1) := Lib.hid (by rw [ints_len, upL_len, Nat.mul_one])
        have HU1 : Hid (∀ u ∈ ints (upL F S.size), u.oneCell' = true) := Lib.hid (by
          intro u hu
          obtain ⟨z, -, rfl⟩ := List.mem_map.1 hu
          rfl)
        have HT2 : Hid (allL ((spans s).take (j + 1)) = L ++ upL F S.size) := HT
        clear hown4 hbel4 hbel4' hl hrest hnews y0 y1 y2 y3 y4 y5 y6
        go_wp2_with (at_builtin; refine wpList_append_own _ rfl _ _ 54 rfl w2.heap.size 3 i0 _ 1 8 Tryd.underlying54 hi hz0 hz1 hz2 rfl (by omega) _ _ _ rfl HOWN4.out ⟨g2, 0, none⟩ S.size cap (ints (upL F S.size)) rfl HUL.out HNEWS.out HU1.out (by have := HSO.out; unfold maxLen; omega) (by have := HSO.out; omega) hsz4 ?_)
        intro v' w5 hown5 hgrow5 _
        have hbel5 : Below w2.heap.size w2 w5 := HBEL4.out.grown hgrow5 hsz4 (fun k hk => (HOWN4.out.lt k hk).1)
        have HBEL5 := Lib.hid hbel5
        have HOWN5 := Lib.hid hown5
        clear hown5 hgrow5 hbel5
        go_wp2_with fail
        go_roundw
        case measure => simp [intOf]; omega
        case rel => exact ⟨j + 1, by go_num, Lib.hid ⟨hj2, by rw [HT2.out, ints_app, List.length_append, upL_len]; exact HOWN5.out, HBEL5.out⟩⟩
    · have p1 : ¬ (j : Int) < nl := by omega
      obtain ⟨L, hL⟩ : ∃ L, L = allL (spans s) := ⟨_, rfl⟩
      have hrow := HR.out.own
      rw [show j = (spans s).length by have := HNL.out; omega, List.take_length, ← hL] at hrow
      have hbel := HBEL.out.trans (HR.out.bel.mono HBEL.out.size)
      have hle := allL_le s (spans s).length
      rw [List.take_length, ← hL] at hle
      have hsz : w2.heap.size ≤ wr.heap.size := HR.out.bel.size
      have hsz0 := HBEL.out.size
      have HROW := Lib.hid hrow
      have HBEL2 := Lib.hid hbel
      have HRES2 : Hid (R = if n < 0 ∨ ((L ++ [(s.size : Int)]).length : Int) ≤ n then (0, 2) else ((L ++ [(s.size : Int)]).getD n.toNat 0, 0)) := Lib.hid (by rw [hL]; exact HRES.out)
      have HLL := Lib.hid (ints_len L)
      clear hL hrow hbel HR HRES HNL HA HOWN hj
      have hnews : ∀ j u, [Value.int .i64 (s.size : Int)][j]? = some u → (wr.alloc (.cells #[.int .i64 (s.size : Int)] 3)).cell? ((⟨wr.heap.size, 0, none⟩ : Addr).add j) = some u := by
        intro j u hj
        have h := heap_alloc_new wr (.cells #[.int .i64 (s.size : Int)] 3)
        rw [addr_plus, Nat.zero_add, cell_of_row _ _ j _ _ (0, 0) h]
        simpa using hj
      have HNEWS := Lib.hid hnews
      clear hnews
      go_wp2_with (at_builtin; refine wpList_append_own _ rfl _ _ 54 rfl w2.heap.size 3 i0 _ 1 8 Tryd.underlying54 hi hz0 hz1 hz2 rfl (by omega) _ _ _ rfl (HROW.out.alloc _) ⟨wr.heap.size, 0, none⟩ 1 1 [.int .i64 (s.size : Int)] rfl rfl HNEWS.out (by intro u hu; simp at hu; rw [hu]; rfl) (by unfold maxLen; omega) (by omega) (by simp; omega) ?_)
      intro v' w3 hown3 hgrow3 _
      have hbel3 : Below w.heap.size w w3 := by
        have h := (HROW.out.alloc (.cells #[.int .i64 (s.size : Int)] 3)).lt
        exact (HBEL2.out.alloc (by omega) _).grown hgrow3 (by simp; omega) (fun k hk => Nat.le_trans hsz0 (h k hk).1)
      obtain ⟨A3, c3, rfl, hA3⟩ := own_slice hown3 (by omega)
      obtain ⟨g3, rfl, g31, g32⟩ := hA3 (by omega)
      have hcells : ∀ q : Nat, q < L.length + 1 → w3.cell? ⟨g3, q, none⟩ = some (.int .i64 ((L ++ [(s.size : Int)]).getD q 0)) := by
        intro q hq
        have h1 := hown3.cellAt q (by omega)
        rw [h1, show ints L ++ [Value.int .i64 (s.size : Int)] = ints (L ++ [(s.size : Int)]) by rw [ints_app]; rfl]
        unfold ints
        rw [List.getElem?_map, List.getD_eq_getElem?_getD, List.getElem?_eq_getElem (by simp; omega)]
        rfl
      have HBEL3 := Lib.hid hbel3
      have HCELLS := Lib.hid hcells
      obtain ⟨K, hK⟩ : ∃ K, K = L.length + 1 := ⟨_, rfl⟩
      have hr : (R = if n < 0 ∨ (K : Int) ≤ n then (0, 2) else ((L ++ [(s.size : Int)]).getD n.toNat 0, 0)) := by rw [HRES2.out, List.length_append, List.length_singleton, hK]
      have HR3 := Lib.hid hr
      rw [← hK] at g31 ⊢
      have HK := Lib.hid hK
      have hK2 : (K : Int) ≤ 1048577 := by omega
      clear hown3 hgrow3 hbel3 hA3 hcells hr hK
      by_cases hn0 : n < 0
      · have ho : R = (0, 2) := by rw [HR3.out, if_pos (.inl hn0)]
        subst ho
        go_wp2_with fail
        go_ret2
        exact ⟨rfl, HBEL3.out⟩
      · by_cases hn1 : (K : Int) ≤ n
        · have ho : R = (0, 2) := by rw [HR3.out, if_pos (.inr hn1)]
          subst ho
          go_wp2_with fail
          go_ret2
          exact ⟨rfl, HBEL3.out⟩
        · obtain ⟨q, rfl⟩ := Int.eq_ofNat_of_zero_le (show 0 ≤ n by omega)
          have ho : R = ((L ++ [(s.size : Int)]).getD q 0, 0) := by rw [HR3.out, if_neg (by omega)]; rfl
          have hq : q < K := by omega
          have hc := HCELLS.out q (by have := HK.out; omega)
          subst ho
          go_wp2_with fail
          go_ret2
          exact ⟨rfl, HBEL3.out⟩
end Go.Proofs.YtjfpaahidfhkoaaDoor
