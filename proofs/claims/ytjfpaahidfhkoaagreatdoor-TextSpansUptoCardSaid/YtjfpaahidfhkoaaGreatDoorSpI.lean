/- The reference's lists: textsOf, RefsOf, LinksOf, TagsOf. -/
import Derived.Test.YtjfpaahidfhkoaaGreatDoorExB
import Derived.Test.YtjfpaahidfhkoaaGreatDoorSpB
import Derived.WalkKit
import Derived.Lib.Hide
import Derived.Outline
import Derived.Deep.DeepCutAuto
import Derived.Deep.CutBlock
import Derived.Deep.LoopGhost
import Derived.Deep.QuietTactic
import Derived.BigQuiet
import Derived.BigRegion
import Derived.Lib.SmallJoins
namespace Go.Proofs.YtjfpaahidfhkoaaGreatDoor
open Go.RowKit

theorem txtL_take {kd : Nat} {l : List Sp} {j : Nat} (h : j < l.length) : txtL kd (l.take (j + 1)) = if l[j].kind = kd then txtL kd (l.take j) ++ [l[j].text] else txtL kd (l.take j) := by
  rw [List.take_succ_eq_append_getElem h, txtL_snoc]
theorem idL_take {l : List Sp} {j : Nat} (h : j < l.length) : idL (l.take (j + 1)) = if l[j].kind = 5 then idL (l.take j) ++ [l[j].id] else idL (l.take j) := by
  rw [List.take_succ_eq_append_getElem h, idL_snoc]
theorem take_len (s : ByteArray) (j : Nat) : ((spans s).take j).length ≤ s.size := by
  have h1 := List.length_take_le' j (spans s)
  have h2 := sps_len s
  omega
/-- At the head of each round. -/
structure VRow (E : TypeId) (s : ByteArray) (c : List Value) (w2 : World) (j : Nat) (v : Value) (wx : World) : Prop where
  le : j ≤ (spans s).length
  own : wx.ownsRow w2.heap.size E 1 v c.length c
  bel : Below w2.heap.size w2 wx

set_option maxRecDepth 100000 in
set_option maxHeartbeats 8000000 in
theorem refTexts_any (s : ByteArray) (kd : Nat) (w : World) (hs : s.size ≤ 1048576) : Calls Tryz.prog 47 #[.string s, .int .i64 kd] w (GivesRow 9 (strs (txtL kd (spans s))) w) := by
  obtain ⟨i0, hi, hz0, hz1, hz2⟩ := info_parts infoStrT
  obtain ⟨R, hR⟩ : ∃ R, R = strs (txtL kd (spans s)) := ⟨_, rfl⟩
  rw [← hR]
  have HRES := Lib.hid hR
  clear hR
  go_enter Tryz.func47, Tryz.ntmps47
  go_wp2_with fail
  refine (spansOf_any s _ hs).mono ?_
  rintro e1 w2 ⟨v1, rfl, hown, hbel⟩
  obtain ⟨A, c, rfl, hA⟩ := own_slice hown (by omega)
  have HOWN := Lib.hid hown
  have HBEL := Lib.hid hbel
  have hlz := sps_len s
  obtain ⟨nl, hnl⟩ : ∃ nl, nl = (spans s).length := ⟨_, rfl⟩
  rw [← hnl] at hA hlz HOWN ⊢
  have HNL := Lib.hid hnl
  have HA := Lib.hid hA
  clear hown hbel hnl hA
  have hnl2 : (nl : Int) ≤ 1048576 := by omega
  go_wp2_with fail
  go_loopw [5, 11] (fun v ix wx => ∃ (j : Nat), ix = .int .i64 j ∧ Hid (VRow 9 s (strs (txtL kd ((spans s).take j))) w2 j v wx)) (fun _ ix _ => nl - (intOf ix).toNat)
  case atStart => exact ⟨0, rfl, Lib.hid ⟨Nat.zero_le _, ⟨rfl, .inl ⟨rfl, rfl⟩⟩, Below.refl _ _⟩⟩
  case round =>
    obtain ⟨j, rfl, HR⟩ := hrel
    have hjl : j ≤ nl := by have := HR.out.le; have := HNL.out; omega
    by_cases hj : j < nl
    · have hj2 : j < (spans s).length := by rw [← HNL.out]; exact hj
      have p1 : (j : Int) < nl := by omega
      obtain ⟨g, rfl, hA1, hA2⟩ := HA.out (by omega)
      obtain ⟨X, hX⟩ : ∃ X, X = (spans s)[j] := ⟨_, rfl⟩
      have hcell : ∀ c u, c < 7 → X.cells[c]? = some u → wr.cell? ⟨g, j * 7 + c, none⟩ = some u := by
        intro c u hc hu
        have h1 := (HOWN.out.cellAt (j * 7 + c) (by rw [HNL.out]; omega))
        have h2 := flat_at (spans s) j hj2 c hc
        rw [← hX, hu] at h2
        exact ((HR.out.bel.cell (p := ⟨g, j * 7 + c, none⟩) (HOWN.out.lt g rfl).2).trans h1).trans h2
      have ht := txtL_take (kd := kd) hj2
      rw [← hX] at ht
      have hlen := take_len s j
      obtain ⟨L, hL⟩ : ∃ L, L = txtL kd ((spans s).take j) := ⟨_, rfl⟩
      have hLl : L.length ≤ s.size := by rw [hL]; exact Nat.le_trans (txtL_len kd _) hlen
      have HOWNJ : Hid (wr.ownsRow w2.heap.size 9 1 u5 L.length (strs L)) := Lib.hid (by rw [hL]; have := HR.out.own; rwa [strs_len] at this)
      have HBELJ := Lib.hid HR.out.bel
      rw [← hL] at ht
      have HT := Lib.hid ht
      clear hX HR hL ht
      obtain ⟨xk, xf, xe, xt, xs, xi, xb⟩ := X
      have e0 := hcell 0 _ (by omega) rfl
      have e1 := hcell 1 _ (by omega) rfl
      have e2 := hcell 2 _ (by omega) rfl
      have e3 := hcell 3 _ (by omega) rfl
      have e4 := hcell 4 _ (by omega) rfl
      have e5 := hcell 5 _ (by omega) rfl
      have e6 := hcell 6 _ (by omega) rfl
      clear hcell
      simp only [Nat.add_zero] at e0
      simp only at HT
      go_upto_region 5 with (fail)
      have hsz : w2.heap.size ≤ wr.heap.size := HBELJ.out.size
      obtain ⟨w3, hw3⟩ : ∃ w3, w3 = wr.alloc (.cells #[.int .i64 xk, .int .i64 xf, .int .i64 xe, .string xt, .string xs, .int .i64 xi, .bool xb] 27) := ⟨_, rfl⟩
      have hbel3 : Below w2.heap.size w2 w3 := by rw [hw3]; exact HBELJ.out.alloc hsz _
      have hown3 : w3.ownsRow w2.heap.size 9 1 u5 L.length (strs L) := by rw [hw3]; exact HOWNJ.out.alloc _
      have hblk : w3.heap[wr.heap.size]? = some (.cells #[.int .i64 xk, .int .i64 xf, .int .i64 xe, .string xt, .string xs, .int .i64 xi, .bool xb] 27 (0, 0)) := by rw [hw3]; exact heap_alloc_new wr _
      rw [← hw3]
      have hsz3 : w2.heap.size ≤ w3.heap.size := hbel3.size
      have HBEL3 := Lib.hid hbel3
      have HOWN3 := Lib.hid hown3
      obtain ⟨⟨y0, y1, y2, y3, y4, y5, y6⟩, -⟩ := blk7 hblk
      clear hw3 hbel3 hown3 hblk e0 e1 e2 e3 e4 e5 e6
      by_cases hk : xk = kd
      · have q : ((xk : Int) == kd) = true := by simp [hk]
        have HT2 : Hid (txtL kd ((spans s).take (j + 1)) = L ++ [xt]) := Lib.hid (by rw [HT.out, if_pos hk])
        have hnews : ∀ q u, [.string xt][q]? = some u → (w3.alloc (.cells #[.string xt] 9)).cell? ((⟨w3.heap.size, 0, none⟩ : Addr).add q) = some u := by
          intro q u hq
          have h := heap_alloc_new w3 (.cells #[.string xt] 9)
          rw [addr_plus, Nat.zero_add, cell_of_row _ _ q _ _ (0, 0) h]
          simpa using hq
        have HNEWS := Lib.hid hnews
        clear hnews hk
        go_wp2_with (at_builtin; refine wpList_append_own _ rfl _ _ 31 rfl w2.heap.size 9 i0 _ 1 16 Tryz.underlying31 hi hz0 hz1 hz2 rfl (by omega) _ _ _ rfl (HOWN3.out.alloc _) ⟨w3.heap.size, 0, none⟩ 1 1 [.string xt] rfl rfl HNEWS.out (by intro u hu; simp at hu; rw [hu]; rfl) (by unfold maxLen; omega) (by omega) (by simp; omega) ?_)
        intro v' w4 hown4 hgrow4 _
        have hbel4 : Below w2.heap.size w2 w4 := (HBEL3.out.alloc hsz3 _).grown hgrow4 (by simp; omega) (fun k hk => (HOWN3.out.lt k hk).1)
        have HBEL4 := Lib.hid hbel4
        have HOWN4 := Lib.hid hown4
        clear hown4 hgrow4 hbel4
        go_wp2_with fail
        go_roundw
        case measure => simp [intOf]; omega
        case rel => exact ⟨j + 1, by go_num, Lib.hid ⟨hj2, by rw [HT2.out, strs_len, List.length_append, strs_app]; exact HOWN4.out, HBEL4.out⟩⟩
      · have q : ((xk : Int) == kd) = false := by simp; omega
        have HT2 : Hid (txtL kd ((spans s).take (j + 1)) = L) := Lib.hid (by rw [HT.out, if_neg hk])
        clear hk
        go_wp2_with fail
        go_roundw
        case measure => simp [intOf]; omega
        case rel => exact ⟨j + 1, by go_num, Lib.hid ⟨hj2, by rw [HT2.out, strs_len]; exact HOWN3.out, HBEL3.out⟩⟩
    · have p1 : ¬ (j : Int) < nl := by omega
      have hown := HR.out.own
      rw [show j = (spans s).length by have := HNL.out; omega, List.take_length, ← HRES.out] at hown
      have hown5 := own_base hown HBEL.out.size
      have hbel := HBEL.out.trans (HR.out.bel.mono HBEL.out.size)
      have HB := Lib.hid hbel
      have HO := Lib.hid hown5
      obtain ⟨ao, ac, rfl, -⟩ := own_slice' hown5
      clear hown hown5 hbel HR
      go_wp2_with fail
      go_ret
      exact ⟨_, rfl, HO.out, HB.out⟩

set_option maxRecDepth 100000 in
set_option maxHeartbeats 8000000 in
theorem refIds_any (s : ByteArray) (w : World) (hs : s.size ≤ 1048576) : Calls Tryz.prog 18 #[.string s] w (GivesRow 3 (nats (idL (spans s))) w) := by
  obtain ⟨i0, hi, hz0, hz1, hz2⟩ := info_parts infoIntT
  obtain ⟨R, hR⟩ : ∃ R, R = nats (idL (spans s)) := ⟨_, rfl⟩
  rw [← hR]
  have HRES := Lib.hid hR
  clear hR
  go_enter Tryz.func18, Tryz.ntmps18
  go_wp2_with fail
  refine (spansOf_any s _ hs).mono ?_
  rintro e1 w2 ⟨v1, rfl, hown, hbel⟩
  obtain ⟨A, c, rfl, hA⟩ := own_slice hown (by omega)
  have HOWN := Lib.hid hown
  have HBEL := Lib.hid hbel
  have hlz := sps_len s
  obtain ⟨nl, hnl⟩ : ∃ nl, nl = (spans s).length := ⟨_, rfl⟩
  rw [← hnl] at hA hlz HOWN ⊢
  have HNL := Lib.hid hnl
  have HA := Lib.hid hA
  clear hown hbel hnl hA
  have hnl2 : (nl : Int) ≤ 1048576 := by omega
  go_wp2_with fail
  go_loopw [3, 9] (fun v ix wx => ∃ (j : Nat), ix = .int .i64 j ∧ Hid (VRow 3 s (nats (idL ((spans s).take j))) w2 j v wx)) (fun _ ix _ => nl - (intOf ix).toNat)
  case atStart => exact ⟨0, rfl, Lib.hid ⟨Nat.zero_le _, ⟨rfl, .inl ⟨rfl, rfl⟩⟩, Below.refl _ _⟩⟩
  case round =>
    obtain ⟨j, rfl, HR⟩ := hrel
    have hjl : j ≤ nl := by have := HR.out.le; have := HNL.out; omega
    by_cases hj : j < nl
    · have hj2 : j < (spans s).length := by rw [← HNL.out]; exact hj
      have p1 : (j : Int) < nl := by omega
      obtain ⟨g, rfl, hA1, hA2⟩ := HA.out (by omega)
      obtain ⟨X, hX⟩ : ∃ X, X = (spans s)[j] := ⟨_, rfl⟩
      have hcell : ∀ c u, c < 7 → X.cells[c]? = some u → wr.cell? ⟨g, j * 7 + c, none⟩ = some u := by
        intro c u hc hu
        have h1 := (HOWN.out.cellAt (j * 7 + c) (by rw [HNL.out]; omega))
        have h2 := flat_at (spans s) j hj2 c hc
        rw [← hX, hu] at h2
        exact ((HR.out.bel.cell (p := ⟨g, j * 7 + c, none⟩) (HOWN.out.lt g rfl).2).trans h1).trans h2
      have ht := idL_take hj2
      rw [← hX] at ht
      have hlen := take_len s j
      obtain ⟨L, hL⟩ : ∃ L, L = idL ((spans s).take j) := ⟨_, rfl⟩
      have hLl : L.length ≤ s.size := by rw [hL]; exact Nat.le_trans (idL_len _) hlen
      have HOWNJ : Hid (wr.ownsRow w2.heap.size 3 1 u3 L.length (nats L)) := Lib.hid (by rw [hL]; have := HR.out.own; rwa [nats_len] at this)
      have HBELJ := Lib.hid HR.out.bel
      rw [← hL] at ht
      have HT := Lib.hid ht
      clear hX HR hL ht
      obtain ⟨xk, xf, xe, xt, xs, xi, xb⟩ := X
      have e0 := hcell 0 _ (by omega) rfl
      have e1 := hcell 1 _ (by omega) rfl
      have e2 := hcell 2 _ (by omega) rfl
      have e3 := hcell 3 _ (by omega) rfl
      have e4 := hcell 4 _ (by omega) rfl
      have e5 := hcell 5 _ (by omega) rfl
      have e6 := hcell 6 _ (by omega) rfl
      clear hcell
      simp only [Nat.add_zero] at e0
      simp only at HT
      go_upto_region 5 with (fail)
      have hsz : w2.heap.size ≤ wr.heap.size := HBELJ.out.size
      obtain ⟨w3, hw3⟩ : ∃ w3, w3 = wr.alloc (.cells #[.int .i64 xk, .int .i64 xf, .int .i64 xe, .string xt, .string xs, .int .i64 xi, .bool xb] 27) := ⟨_, rfl⟩
      have hbel3 : Below w2.heap.size w2 w3 := by rw [hw3]; exact HBELJ.out.alloc hsz _
      have hown3 : w3.ownsRow w2.heap.size 3 1 u3 L.length (nats L) := by rw [hw3]; exact HOWNJ.out.alloc _
      have hblk : w3.heap[wr.heap.size]? = some (.cells #[.int .i64 xk, .int .i64 xf, .int .i64 xe, .string xt, .string xs, .int .i64 xi, .bool xb] 27 (0, 0)) := by rw [hw3]; exact heap_alloc_new wr _
      rw [← hw3]
      have hsz3 : w2.heap.size ≤ w3.heap.size := hbel3.size
      have HBEL3 := Lib.hid hbel3
      have HOWN3 := Lib.hid hown3
      obtain ⟨⟨y0, y1, y2, y3, y4, y5, y6⟩, -⟩ := blk7 hblk
      clear hw3 hbel3 hown3 hblk e0 e1 e2 e3 e4 e5 e6
      by_cases hk : xk = 5
      · have q : ((xk : Int) == 5) = true := by simp [hk]
        have HT2 : Hid (idL ((spans s).take (j + 1)) = L ++ [xi]) := Lib.hid (by rw [HT.out, if_pos hk])
        have hnews : ∀ q u, [.int .i64 xi][q]? = some u → (w3.alloc (.cells #[.int .i64 xi] 3)).cell? ((⟨w3.heap.size, 0, none⟩ : Addr).add q) = some u := by
          intro q u hq
          have h := heap_alloc_new w3 (.cells #[.int .i64 xi] 3)
          rw [addr_plus, Nat.zero_add, cell_of_row _ _ q _ _ (0, 0) h]
          simpa using hq
        have HNEWS := Lib.hid hnews
        clear hnews hk
        go_wp2_with (at_builtin; refine wpList_append_own _ rfl _ _ 34 rfl w2.heap.size 3 i0 _ 1 8 Tryz.underlying34 hi hz0 hz1 hz2 rfl (by omega) _ _ _ rfl (HOWN3.out.alloc _) ⟨w3.heap.size, 0, none⟩ 1 1 [.int .i64 xi] rfl rfl HNEWS.out (by intro u hu; simp at hu; rw [hu]; rfl) (by unfold maxLen; omega) (by omega) (by simp; omega) ?_)
        intro v' w4 hown4 hgrow4 _
        have hbel4 : Below w2.heap.size w2 w4 := (HBEL3.out.alloc hsz3 _).grown hgrow4 (by simp; omega) (fun k hk => (HOWN3.out.lt k hk).1)
        have HBEL4 := Lib.hid hbel4
        have HOWN4 := Lib.hid hown4
        clear hown4 hgrow4 hbel4
        go_wp2_with fail
        go_roundw
        case measure => simp [intOf]; omega
        case rel => exact ⟨j + 1, by go_num, Lib.hid ⟨hj2, by rw [HT2.out, nats_len, List.length_append, nats_app]; exact HOWN4.out, HBEL4.out⟩⟩
      · have q : ((xk : Int) == 5) = false := by simp; omega
        have HT2 : Hid (idL ((spans s).take (j + 1)) = L) := Lib.hid (by rw [HT.out, if_neg hk])
        clear hk
        go_wp2_with fail
        go_roundw
        case measure => simp [intOf]; omega
        case rel => exact ⟨j + 1, by go_num, Lib.hid ⟨hj2, by rw [HT2.out, nats_len]; exact HOWN3.out, HBEL3.out⟩⟩
    · have p1 : ¬ (j : Int) < nl := by omega
      have hown := HR.out.own
      rw [show j = (spans s).length by have := HNL.out; omega, List.take_length, ← HRES.out] at hown
      have hown5 := own_base hown HBEL.out.size
      have hbel := HBEL.out.trans (HR.out.bel.mono HBEL.out.size)
      have HB := Lib.hid hbel
      have HO := Lib.hid hown5
      obtain ⟨ao, ac, rfl, -⟩ := own_slice' hown5
      clear hown hown5 hbel HR
      go_wp2_with fail
      go_ret
      exact ⟨_, rfl, HO.out, HB.out⟩

set_option maxRecDepth 100000 in
set_option maxHeartbeats 4000000 in
theorem linksOf_any (s : ByteArray) (w : World) (hs : s.size ≤ 1048576) : Calls Tryz.prog 15 #[.string s] w (GivesRow 9 (strs (txtL 4 (spans s))) w) := by
  have HT := Lib.hid (refTexts_any s 4 w hs)
  go_enter Tryz.func15, Tryz.ntmps15
  go_wp2_with fail
  refine HT.out.mono ?_
  rintro e1 w1 ⟨v, rfl, hown, hb⟩
  have HO := Lib.hid (And.intro hown hb)
  obtain ⟨ao, c, rfl, -⟩ := own_slice' hown
  clear hown hb
  go_wp2
  go_ret
  exact ⟨_, rfl, HO.out.1, HO.out.2⟩
set_option maxRecDepth 100000 in
set_option maxHeartbeats 4000000 in
theorem tagsOf_any (s : ByteArray) (w : World) (hs : s.size ≤ 1048576) : Calls Tryz.prog 20 #[.string s] w (GivesRow 9 (strs (txtL 6 (spans s))) w) := by
  have HT := Lib.hid (refTexts_any s 6 w hs)
  go_enter Tryz.func20, Tryz.ntmps20
  go_wp2_with fail
  refine HT.out.mono ?_
  rintro e1 w1 ⟨v, rfl, hown, hb⟩
  have HO := Lib.hid (And.intro hown hb)
  obtain ⟨ao, c, rfl, -⟩ := own_slice' hown
  clear hown hb
  go_wp2
  go_ret
  exact ⟨_, rfl, HO.out.1, HO.out.2⟩
end Go.Proofs.YtjfpaahidfhkoaaGreatDoor
