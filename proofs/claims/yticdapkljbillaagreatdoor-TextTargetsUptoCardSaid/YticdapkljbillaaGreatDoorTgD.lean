/- The reference's RetargetOf. -/
import Derived.Test.YticdapkljbillaaGreatDoorTgC
import Derived.Test.YticdapkljbillaaGreatDoorSpI
import Derived.WalkKit
import Derived.Lib.Hide
import Derived.Outline
import Derived.Deep.DeepCutAuto
import Derived.Deep.CutBlock
import Derived.Deep.LoopGhost
import Derived.Deep.QuietTactic
import Derived.BigQuiet
import Derived.BigRegion
import Derived.Lib.SmallJoins
import Derived.Laws.DeepStrings4
namespace Go.Proofs.YticdapkljbillaaGreatDoor
open Go.RowKit

theorem rt_stay {lk : Int} : ∀ (l : List Sp) (st : Sp × Nat), lk < st.2 → (l.foldl (rtStep lk) st).1 = st.1 ∧ st.2 ≤ (l.foldl (rtStep lk) st).2
  | [], st, _ => ⟨rfl, Nat.le_refl _⟩
  | x :: l, st, h => by
    rw [List.foldl_cons]
    have e : (rtStep lk st x).1 = st.1 ∧ st.2 ≤ (rtStep lk st x).2 := by
      unfold rtStep
      split
      · rw [if_neg (by omega)]; exact ⟨rfl, by simp⟩
      · exact ⟨rfl, Nat.le_refl _⟩
    have h0 : lk < ((rtStep lk st x).2 : Int) := by have := e.2; omega
    obtain ⟨h1, h2⟩ := rt_stay l (rtStep lk st x) h0
    exact ⟨h1.trans e.1, Nat.le_trans e.2 h2⟩
theorem rt_found {s : ByteArray} {lk : Int} {j : Nat} (h : j < (spans s).length) (hn : ((rtAll lk ((spans s).take j)).2 : Int) = lk) (hk : (spans s)[j].kind = 4) :
    (rtAll lk (spans s)).1 = (spans s)[j] ∧ lk < (rtAll lk (spans s)).2 := by
  have e : spans s = (spans s).take j ++ (spans s)[j] :: (spans s).drop (j + 1) := by rw [List.getElem_cons_drop]; exact (List.take_append_drop j _).symm
  have e2 : rtStep lk (rtAll lk ((spans s).take j)) (spans s)[j] = ((spans s)[j], (rtAll lk ((spans s).take j)).2 + 1) := by unfold rtStep; rw [if_pos hk, if_pos hn]
  have e3 : rtAll lk (spans s) = ((spans s).drop (j + 1)).foldl (rtStep lk) (rtStep lk (rtAll lk ((spans s).take j)) (spans s)[j]) := by
    conv => lhs; rw [e]
    unfold rtAll
    rw [List.foldl_append, List.foldl_cons]
  rw [e3, e2]
  obtain ⟨h1, h2⟩ := rt_stay (lk := lk) ((spans s).drop (j + 1)) ((spans s)[j], (rtAll lk ((spans s).take j)).2 + 1) (by simp only; omega)
  exact ⟨h1, by simp only at h2; omega⟩
theorem rt_take {s : ByteArray} {lk : Int} {j : Nat} (h : j < (spans s).length) : rtAll lk ((spans s).take (j + 1)) = rtStep lk (rtAll lk ((spans s).take j)) (spans s)[j] := by
  rw [List.take_succ_eq_append_getElem h, rtAll_snoc]

/-- At the head of each round. -/
structure RtRow (s : ByteArray) (lk : Int) (w2 : World) (j n : Nat) (wx : World) : Prop where
  le : j ≤ (spans s).length
  cnt : n = (rtAll lk ((spans s).take j)).2
  no : lk < 0 ∨ (n : Int) ≤ lk
  bel : Below w2.heap.size w2 wx

set_option maxRecDepth 100000 in
set_option maxHeartbeats 8000000 in
theorem retargetOf_any (s : ByteArray) (lk : Int) (t : ByteArray) (w : World) (hs : s.size ≤ 1048576) (ht : t.size ≤ 1048576) :
    Calls Tryz.prog 8 #[.string s, .int .i64 lk, .string t] w (Quiet w (.tuple #[.string (rtRes s lk t).1, .int .i64 ((rtRes s lk t).2 : Int)])) := by
  obtain ⟨R, hR⟩ : ∃ R, R = rtRes s lk t := ⟨_, rfl⟩
  rw [← hR]
  have HRES := Lib.hid hR
  clear hR
  go_enter Tryz.func8, Tryz.ntmps8
  go_wp2_with fail
  refine (spansOf_any s _ hs).mono ?_
  rintro e1 w2 ⟨v1, rfl, hown, hbel⟩
  obtain ⟨A, c, rfl, hA⟩ := own_slice hown (by omega)
  have HOWN := Lib.hid hown
  have HBEL := Lib.hid hbel
  have hlz := sps_len s
  obtain ⟨nl, hnl⟩ : ∃ nl, nl = (spans s).length := ⟨_, rfl⟩
  rw [← hnl] at hA hlz HOWN ⊢
  have HNL := Lib.hid hnl
  have HA := Lib.hid hA
  clear hown hbel hnl hA
  have hnl2 : (nl : Int) ≤ 1048576 := by omega
  go_wp2_with fail
  go_loopw [8, 15] (fun m ix wx => ∃ (j n : Nat), ix = .int .i64 j ∧ m = .int .i64 n ∧ Hid (RtRow s lk w2 j n wx)) (fun _ ix _ => nl - (intOf ix).toNat)
  case atStart => exact ⟨0, 0, rfl, rfl, Lib.hid ⟨Nat.zero_le _, rfl, by omega, Below.refl _ _⟩⟩
  case round =>
    obtain ⟨j, n, rfl, rfl, HR⟩ := hrel
    have hjl : j ≤ nl := by have := HR.out.le; have := HNL.out; omega
    by_cases hj : j < nl
    · have hj2 : j < (spans s).length := by rw [← HNL.out]; exact hj
      have p1 : (j : Int) < nl := by omega
      obtain ⟨g, rfl, hA1, hA2⟩ := HA.out (by omega)
      obtain ⟨X, hX⟩ : ∃ X, X = (spans s)[j] := ⟨_, rfl⟩
      have hcell : ∀ c u, c < 7 → X.cells[c]? = some u → wr.cell? ⟨g, j * 7 + c, none⟩ = some u := by
        intro c u hc hu
        have h1 := (HOWN.out.cellAt (j * 7 + c) (by rw [HNL.out]; omega))
        have h2 := flat_at (spans s) j hj2 c hc
        rw [← hX, hu] at h2
        exact ((HR.out.bel.cell (p := ⟨g, j * 7 + c, none⟩) (HOWN.out.lt g rfl).2).trans h1).trans h2
      have htk := rt_take (lk := lk) hj2
      have hfd := rt_found (lk := lk) hj2
      have hlink := link_in s (spans s)[j] (List.getElem_mem _)
      have hin := sps_in s X (by rw [hX]; exact List.getElem_mem _)
      have hhi := hin.hi
      have hno := HR.out.no
      have hn := HR.out.cnt
      have hnn : n ≤ s.size := by
        rw [hn]; exact Nat.le_trans (rt_len _ _) (take_len s j)
      rw [← hX] at htk hfd hlink
      rw [← hn] at hfd
      have HTK := Lib.hid htk
      have HFD := Lib.hid hfd
      have HN := Lib.hid hn
      have HBELJ := Lib.hid HR.out.bel
      clear hX hin HR htk hfd hn
      obtain ⟨xk, xf, xe, xt, xs, xi, xb⟩ := X
      have e0 := hcell 0 _ (by omega) rfl
      have e1 := hcell 1 _ (by omega) rfl
      have e2 := hcell 2 _ (by omega) rfl
      have e3 := hcell 3 _ (by omega) rfl
      have e4 := hcell 4 _ (by omega) rfl
      have e5 := hcell 5 _ (by omega) rfl
      have e6 := hcell 6 _ (by omega) rfl
      clear hcell
      simp only [Nat.add_zero] at e0
      simp only at HTK HFD hlink hhi
      go_upto_region 5 with (fail)
      have hsz : w2.heap.size ≤ wr.heap.size := HBELJ.out.size
      obtain ⟨w3, hw3⟩ : ∃ w3, w3 = wr.alloc (.cells #[.int .i64 xk, .int .i64 xf, .int .i64 xe, .string xt, .string xs, .int .i64 xi, .bool xb] 34) := ⟨_, rfl⟩
      have hbel3 : Below w2.heap.size w2 w3 := by rw [hw3]; exact HBELJ.out.alloc hsz _
      have hblk : w3.heap[wr.heap.size]? = some (.cells #[.int .i64 xk, .int .i64 xf, .int .i64 xe, .string xt, .string xs, .int .i64 xi, .bool xb] 34 (0, 0)) := by rw [hw3]; exact heap_alloc_new wr _
      rw [← hw3]
      have HBEL3 := Lib.hid hbel3
      obtain ⟨⟨y0, y1, y2, y3, y4, y5, y6⟩, -⟩ := blk7 hblk
      clear hw3 hbel3 hblk e0 e1 e2 e3 e4 e5 e6
      by_cases hk : xk = 4
      · have q4 : ((xk : Int) != 4) = false := by simp [hk]
        by_cases hm : (n : Int) = lk
        · have hml : ((n : Int) == lk) = true := by simpa using hm
          obtain ⟨f1, f2⟩ := HFD.out hm hk
          have hl := hlink hk
          have hR : R = if isTgt t = false then (⟨#[]⟩, 3) else if 2000 < s.size - xt.size + t.size then (⟨#[]⟩, 4) else (s.extract 0 (xf + 2) ++ t ++ s.extract (xf + 2 + xt.size) s.size, 0) := by
            rw [HRES.out]; unfold rtRes; rw [f1, if_neg (by omega)]
          have hbw := HBEL.out.trans (HBEL3.out.mono HBEL.out.size)
          have HB := Lib.hid hbw
          have hT := fun W => refIsTarget_any t W (by omega)
          have z1 : (s.extract 0 (xf + 2)).size ≤ 4000000 := by rw [ByteArray.size_extract]; omega
          have w1 : IntKind.i64.wrap ((xf : Int) + 2) = (xf : Int) + 2 := IntWalk.i64_in _ (by omega)
          have w2' : IntKind.i64.wrap ((xf : Int) + 2 + xt.size) = (xf : Int) + 2 + xt.size := IntWalk.i64_in _ (by omega)
          have i1 : (0 : Int) ≤ (xf : Int) + 2 := by omega
          have i2 : (xf : Int) + 2 ≤ s.size := by omega
          have i3 : (0 : Int) ≤ (xf : Int) + 2 + xt.size := by omega
          have i4 : (xf : Int) + 2 + xt.size ≤ s.size := by omega
          have i5 : ((xf : Int) + 2).toNat = xf + 2 := by omega
          have i6 : ((xf : Int) + 2 + xt.size).toNat = xf + 2 + xt.size := by omega
          have z2 : xf + 2 + t.size ≤ 4000000 := by omega
          have z3 : xf + 2 + t.size + (s.size - (xf + 2 + xt.size)) ≤ 4000000 := by omega
          clear f1 f2 hm hk hbw HFD HTK hlink
          have HR := Lib.hid hR
          clear hR
          go_upto_region 7 with (fail)
          go_quiet (fail)
          obtain ⟨w4, hw4⟩ : ∃ w4, w4 = w3.drewN nq := ⟨_, rfl⟩
          have HB4 : Hid (Below w.heap.size w w4) := Lib.hid (by rw [hw4]; exact below_drewN' HB.out _)
          rw [← hw4]
          obtain ⟨T, hT2⟩ : ∃ T, T = s.extract 0 (xf + 2) ++ t ++ s.extract (xf + 2 + xt.size) s.size := ⟨_, rfl⟩
          have hTs : T.size = xf + 2 + t.size + (s.size - (xf + 2 + xt.size)) := by
            rw [hT2, ByteArray.size_append, ByteArray.size_append, ByteArray.size_extract, ByteArray.size_extract]; omega
          rw [← hT2]
          have hR := HR.out
          rw [← hT2] at hR
          clear hT2 hw4 y0 y1 y2 y3 y4 y5 y6 w1 w2' HR
          have hTs2 : T.size ≤ 4000000 := by omega
          cases hb : isTgt t with
          | false =>
            rw [hb] at hT
            have hv : R = (⟨#[]⟩, 3) := by rw [hR, if_pos hb]
            have HT := Lib.hid hT
            subst hv
            clear hR hT hb hTs
            go_wp2_with fail
            refine (HT.out _).mono ?_
            rintro e5 w5 ⟨rfl, hb5⟩
            have HB5 := Lib.hid (HB4.out.trans (hb5.mono HB4.out.size))
            clear hb5
            go_wp2_with fail
            go_ret2
            exact ⟨rfl, HB5.out⟩
          | true =>
            rw [hb] at hT
            rw [if_neg (by rw [hb]; simp)] at hR
            have HT := Lib.hid hT
            clear hT hb
            by_cases h2 : 2000 < s.size - xt.size + t.size
            · have hv : R = (⟨#[]⟩, 4) := by rw [hR, if_pos h2]
              have g1 : (2000 : Int) < T.size := by omega
              subst hv
              clear hR hTs h2
              go_wp2_with fail
              refine (HT.out _).mono ?_
              rintro e5 w5 ⟨rfl, hb5⟩
              have HB5 := Lib.hid (HB4.out.trans (hb5.mono HB4.out.size))
              clear hb5
              go_wp2_with fail
              go_ret2
              exact ⟨rfl, HB5.out⟩
            · have hv : R = (T, 0) := by rw [hR, if_neg h2]
              have g1 : ¬ (2000 : Int) < T.size := by omega
              subst hv
              clear hR hTs h2
              go_wp2_with fail
              refine (HT.out _).mono ?_
              rintro e5 w5 ⟨rfl, hb5⟩
              have HB5 := Lib.hid (HB4.out.trans (hb5.mono HB4.out.size))
              clear hb5
              go_wp2_with fail
              go_ret2
              exact ⟨rfl, HB5.out⟩
        · have hml : ((n : Int) == lk) = false := by simpa using hm
          have HX : Hid (RtRow s lk w2 (j + 1) (n + 1) w3) := Lib.hid ⟨hj2, by rw [HTK.out, rtStep, if_pos hk, ← HN.out], by omega, HBEL3.out⟩
          clear HTK HFD hlink hk hm
          go_wp2_with fail
          go_roundw
          case measure => simp [intOf]; omega
          case rel => exact ⟨j + 1, n + 1, by go_num, by go_num, HX⟩
      · have q4 : ((xk : Int) != 4) = true := by simp; omega
        have HX : Hid (RtRow s lk w2 (j + 1) n w3) := Lib.hid ⟨hj2, by rw [HTK.out, rtStep, if_neg hk, ← HN.out], hno, HBEL3.out⟩
        clear HTK HFD hlink hk
        go_wp2_with fail
        go_roundw
        case measure => simp [intOf]; omega
        case rel => exact ⟨j + 1, n, by go_num, rfl, HX⟩
    · have p1 : ¬ (j : Int) < nl := by omega
      have hn := HR.out.cnt
      rw [show j = (spans s).length by have := HNL.out; omega, List.take_length] at hn
      have hno := HR.out.no
      have hv : R = (⟨#[]⟩, 7) := by rw [HRES.out]; unfold rtRes; rw [if_pos (by rw [← hn]; exact hno)]
      have HB := Lib.hid (HBEL.out.trans (HR.out.bel.mono HBEL.out.size))
      subst hv
      clear hn hno HR
      go_wp2_with fail
      go_ret2
      exact ⟨rfl, HB.out⟩
end Go.Proofs.YticdapkljbillaaGreatDoor
