/- The reference's Renumbered. -/
import Derived.Test.YticdapkljbillaaGreatDoorTgJ
import Derived.WalkKit
import Derived.Lib.Hide
import Derived.Outline
import Derived.Deep.DeepCutAuto
import Derived.Deep.CutBlock
import Derived.Deep.LoopGhost
import Derived.Deep.QuietTactic
import Derived.BigQuiet
import Derived.BigRegion
import Derived.Lib.SmallJoins
import Derived.Laws.DeepStrings4
namespace Go.Proofs.YticdapkljbillaaGreatDoor
open Go.RowKit Go.Maps

set_option maxHeartbeats 1000000 in
theorem inRange_any (n : Int) (w : World) :
    Calls Tryz.prog 26 #[.int .i64 n, .int .i64 1, .int .i64 1000000] w fun e w' => e = .returned (.bool (decide (1 ≤ n ∧ n ≤ 1000000))) ∧ w' = w := by
  go_enter Tryz.func26, Tryz.ntmps26
  go_wp2
  all_goals go_ret
  all_goals refine ⟨ret_bool ?_, rfl⟩
  all_goals rw [Bool.eq_iff_iff]
  all_goals simp
  all_goals omega

theorem prs_drop {fs ts : List Int} (h : fs.length = ts.length) {k : Nat} (hk : k < fs.length) : (prs fs ts).drop k = (fs.getD k 0, ts.getD k 0) :: (prs fs ts).drop (k + 1) := by
  have hl : k < (prs fs ts).length := by rw [prs_len h]; exact hk
  have h2 : k < ts.length := by omega
  rw [List.drop_eq_getElem_cons hl]
  congr 1
  have e : (prs fs ts)[k]'hl = (fs[k], ts[k]) := by unfold prs; exact List.getElem_zip
  rw [e, List.getD_eq_getElem?_getD, List.getD_eq_getElem?_getD, List.getElem?_eq_getElem hk, List.getElem?_eq_getElem h2]
  rfl
theorem nxt_cons_hit (a b : Int) (l : List (Int × Int)) : nxt ((a, b) :: l) a = some b := by simp [nxt]
theorem nxt_cons_miss {a b n : Int} (l : List (Int × Int)) (h : a ≠ n) : nxt ((a, b) :: l) n = nxt l n := by
  unfold nxt
  rw [List.find?_cons]
  have : ((a, b).1 == n) = false := by simpa using h
  rw [this]
theorem nxt_drop_small {fs ts : List Int} (h : okTs ts = true) (k : Nat) : Small (nxt ((prs fs ts).drop k)) := by
  intro n m hm
  obtain ⟨p, hp, rfl⟩ := nxt_mem hm
  have h2 : p.2 ∈ ts := (List.of_mem_zip (show (p.1, p.2) ∈ fs.zip ts from List.mem_of_mem_drop hp)).2
  have := List.all_eq_true.1 h _ h2
  simpa using this
theorem rnB_kind {f g : Int → Option Int} {s : ByteArray} {x : Sp} (h : x.kind ≠ 5) : rnB f s x = rnB g s x := by rw [rnB_no h, rnB_no h]
theorem rnB_same {f g : Int → Option Int} {s : ByteArray} {x : Sp} (h : f x.id = g x.id) : rnB f s x = rnB g s x := by unfold rnB; rw [h]

/-- The bytes so far, as a string. -/
def rnS (f : Int → Option Int) (s : ByteArray) (l : List Sp) : ByteArray := ⟨(rnL f s l).toArray⟩
theorem rnS_snoc (f : Int → Option Int) (s : ByteArray) (l : List Sp) (x : Sp) : rnS f s (l ++ [x]) = rnS f s l ++ rnB f s x := by
  apply ByteArray.ext
  apply Array.ext'
  rw [ByteArray.data_append, Array.toList_append]
  unfold rnS
  rw [rnL_snoc]
theorem rnS_size (f : Int → Option Int) (s : ByteArray) (l : List Sp) : (rnS f s l).size = (rnL f s l).length := by simp [rnS, ByteArray.size]
/-- At the head of each round. -/
structure RdRow (s : ByteArray) (w2 : World) (j : Nat) (wx : World) : Prop where
  le : j ≤ (spans s).length
  bel : Below w2.heap.size w2 wx

set_option maxRecDepth 100000 in
set_option maxHeartbeats 8000000 in
theorem renumbered_any (s : ByteArray) (fs ts : List Int) (vf vt : Value) (w : World) (hs : s.size ≤ 1048576) (hf : IntsAt w w.heap.size fs vf) (ht : IntsAt w w.heap.size ts vt) :
    Calls Tryz.prog 10 #[.string s, vf, vt] w (Quiet w (.tuple #[.string (rnRes s fs ts).1, .int .i64 (rnRes s fs ts).2])) := by
  obtain ⟨R, hR⟩ : ∃ R, R = rnRes s fs ts := ⟨_, rfl⟩
  rw [← hR]
  have HRES := Lib.hid hR
  clear hR
  have HF := Lib.hid hf
  have HT := Lib.hid ht
  have hlf := hf.len
  have hlt' := ht.len
  obtain ⟨A1, c1, rfl, h1⟩ := hf.sl
  obtain ⟨A2, c2, rfl, h2⟩ := ht.sl
  obtain ⟨n1, hn1⟩ : ∃ n1, n1 = fs.length := ⟨_, rfl⟩
  obtain ⟨n2, hn2⟩ : ∃ n2, n2 = ts.length := ⟨_, rfl⟩
  rw [← hn1] at hlf h1
  rw [← hn2] at hlt' h2
  rw [← hn1] at HF ⊢
  rw [← hn2] at HT ⊢
  have HN1 := Lib.hid hn1
  have HN2 := Lib.hid hn2
  have H1 := Lib.hid h1
  have H2 := Lib.hid h2
  clear hf ht hn1 hn2 h1 h2
  by_cases hne : n1 = n2
  · obtain rfl : n1 = n2 := hne
    have hn2' : (n1 : Int) ≤ 4000000 := by omega
    have hq : ((n1 : Int) != (n1 : Int)) = false := by simp
    have hleq : fs.length = ts.length := by rw [← HN1.out, ← HN2.out]
    have HLEQ := Lib.hid hleq
    clear hleq
    go_enter Tryz.func10, Tryz.ntmps10
    go_wp2_with fail
    go_loop [22] (fun i => ∃ k : Nat, k ≤ n1 ∧ i = .int .i64 k ∧ Hid (∀ j, j < k → 1 ≤ ts.getD j 0 ∧ ts.getD j 0 ≤ 1000000)) (fun i => n1 - (intOf i).toNat)
    case atStart => exact ⟨0, Nat.zero_le _, rfl, Lib.hid (fun j hj => absurd hj (by omega))⟩
    case round =>
      obtain ⟨k, hk, rfl, hall⟩ := hrel
      by_cases hlt : k < n1
      · have hkt : k < ts.length := by rw [← HN2.out]; exact hlt
        have p1 : (k : Int) < n1 := by omega
        obtain ⟨b2, o2, rfl, l2, d2⟩ : ∃ b off, A2 = some ⟨b, off, none⟩ ∧ b < w.heap.size ∧ ∀ j, j < n1 → w.cell? ⟨b, off + j, none⟩ = some (.int .i64 (ts.getD j 0)) := by
          rcases H2.out with h | h
          · rw [h] at hkt; exact absurd hkt (by simp)
          · exact h
        have e5 := d2 k hlt
        obtain ⟨y, hy⟩ : ∃ y, y = ts.getD k 0 := ⟨_, rfl⟩
        rw [← hy] at e5
        have HY := Lib.hid hy
        clear hy d2
        have HIR := Lib.hid (inRange_any y w)
        by_cases h1 : 1 ≤ y ∧ y ≤ 1000000
        · rw [decide_eq_true h1] at HIR
          go_wp2_with fail
          refine HIR.out.mono ?_
          rintro e6 w6 ⟨rfl, hw⟩
          rw [hw]
          clear hw w6
          go_wp2_with fail
          go_round
          case rel => exact ⟨k + 1, by omega, by go_num, Lib.hid (fun j hj => by
            rcases Nat.lt_succ_iff_lt_or_eq.1 hj with h | rfl
            · exact hall.out j h
            · rw [← HY.out]; exact h1)⟩
          case measure => simp [intOf]; omega
        · rw [decide_eq_false h1] at HIR
          have hr := rn_range (s := s) HLEQ.out (okTs_false hkt (by rw [← HY.out]; omega))
          have HR : Hid (R = (⟨#[]⟩, 2)) := Lib.hid (by rw [HRES.out]; exact hr)
          clear hr h1
          go_wp2_with fail
          refine HIR.out.mono ?_
          rintro e6 w6 ⟨rfl, hw⟩
          rw [hw]
          clear hw w6
          go_wp2_with fail
          go_ret2
          exact ⟨by rw [HR.out]; rfl, Below.refl _ _⟩
      · have p1 : ¬ (k : Int) < n1 := by omega
        have hok : okTs ts = true := okTs_true fun j hj => hall.out j (by rw [← HN2.out] at hj; omega)
        have HOK := Lib.hid hok
        obtain ⟨f, hff⟩ : ∃ f, f = nxt (prs fs ts) := ⟨_, rfl⟩
        have HSM : Hid (Small f) := Lib.hid (by rw [hff]; exact nxt_small hok)
        have HFF := Lib.hid hff
        clear hok hall hlt hff
        go_wp2_with fail
        refine (spansOf_any s _ hs).mono ?_
        rintro e1 w2 ⟨v1, rfl, hown, hbel⟩
        obtain ⟨A, c, rfl, hA⟩ := own_slice hown (by omega)
        have HOWN := Lib.hid hown
        have HBEL := Lib.hid hbel
        have hlz := sps_len s
        obtain ⟨nl, hnl⟩ : ∃ nl, nl = (spans s).length := ⟨_, rfl⟩
        rw [← hnl] at hA hlz HOWN ⊢
        have HNL := Lib.hid hnl
        have HA := Lib.hid hA
        clear hown hbel hnl hA
        have hnl2 : (nl : Int) ≤ 1048576 := by omega
        go_wp2_with fail
        go_loopw [10, 33] (fun ov ix wx => ∃ (j : Nat), ix = .int .i64 j ∧ ov = .string (rnS f s ((spans s).take j)) ∧ Hid (RdRow s w2 j wx)) (fun _ ix _ => nl - (intOf ix).toNat)
        case atStart => exact ⟨0, rfl, rfl, Lib.hid ⟨Nat.zero_le _, Below.refl _ _⟩⟩
        case round =>
          obtain ⟨j, rfl, rfl, HR⟩ := hrel
          have hjl : j ≤ nl := by have := HR.out.le; have := HNL.out; omega
          have hol := rn_le HSM.out s ((spans s).take j) ((spans s).drop j) (List.take_append_drop _ _).symm
          rw [← rnS_size] at hol
          by_cases hj : j < nl
          · have hj2 : j < (spans s).length := by rw [← HNL.out]; exact hj
            have p2 : (j : Int) < nl := by omega
            obtain ⟨g, rfl, hA1, hA2⟩ := HA.out (by omega)
            obtain ⟨X, hX⟩ : ∃ X, X = (spans s)[j] := ⟨_, rfl⟩
            have hcell : ∀ c u, c < 7 → X.cells[c]? = some u → wr.cell? ⟨g, j * 7 + c, none⟩ = some u := by
              intro c u hc hu
              have h1 := (HOWN.out.cellAt (j * 7 + c) (by rw [HNL.out]; omega))
              have h2 := flat_at (spans s) j hj2 c hc
              rw [← hX, hu] at h2
              exact ((HR.out.bel.cell (p := ⟨g, j * 7 + c, none⟩) (HOWN.out.lt g rfl).2).trans h1).trans h2
            have hin := sps_in s X (by rw [hX]; exact List.getElem_mem _)
            have hhi := hin.hi
            have hlo := hin.lt
            have hsn : rnS f s ((spans s).take (j + 1)) = rnS f s ((spans s).take j) ++ rnB f s X := by rw [List.take_succ_eq_append_getElem hj2, rnS_snoc, hX]
            obtain ⟨O, hO⟩ : ∃ O, O = rnS f s ((spans s).take j) := ⟨_, rfl⟩
            rw [← hO] at hsn hol ⊢
            have HSN := Lib.hid hsn
            have HBELJ := Lib.hid HR.out.bel
            have HX := Lib.hid (show ∃ Y, Y = X from ⟨X, rfl⟩)
            have HSZ : Hid (∀ k, (rnB (nxt ((prs fs ts).drop k)) s X).size ≤ 11 * s.size) := Lib.hid (fun k => by
              have := rnB_size (nxt_drop_small (fs := fs) HOK.out k) (s := s) hlo
              omega)
            have hextX : Hid (rnB (nxt ((prs fs ts).drop n1)) s X = s.extract X.from_ X.to_) := Lib.hid (by
              rw [HN1.out, ← prs_len HLEQ.out, List.drop_length]
              exact rnB_none rfl)
            clear hX hin HR hsn hO
            obtain ⟨x, hx⟩ : ∃ x, x = X := ⟨_, rfl⟩
            rw [← hx] at HSZ HSN
            have HXX := Lib.hid hx
            clear hx HX
            obtain ⟨xk, xf, xe, xt, xs, xi, xb⟩ := X
            have e0 := hcell 0 _ (by omega) rfl
            have e1 := hcell 1 _ (by omega) rfl
            have e2 := hcell 2 _ (by omega) rfl
            have e3 := hcell 3 _ (by omega) rfl
            have e4 := hcell 4 _ (by omega) rfl
            have e5 := hcell 5 _ (by omega) rfl
            have e6 := hcell 6 _ (by omega) rfl
            clear hcell
            simp only [Nat.add_zero] at e0
            simp only at hhi hlo hextX
            go_upto_region 13 with (fail)
            have hsz : w2.heap.size ≤ wr.heap.size := HBELJ.out.size
            obtain ⟨w3, hw3⟩ : ∃ w3, w3 = wr.alloc (.cells #[.int .i64 xk, .int .i64 xf, .int .i64 xe, .string xt, .string xs, .int .i64 xi, .bool xb] 34) := ⟨_, rfl⟩
            have hbel3 : Below w2.heap.size w2 w3 := by rw [hw3]; exact HBELJ.out.alloc hsz _
            have hblk : w3.heap[wr.heap.size]? = some (.cells #[.int .i64 xk, .int .i64 xf, .int .i64 xe, .string xt, .string xs, .int .i64 xi, .bool xb] 34 (0, 0)) := by rw [hw3]; exact heap_alloc_new wr _
            rw [← hw3]
            obtain ⟨P, hP⟩ : ∃ P, P = wr.heap.size := ⟨_, rfl⟩
            rw [← hP] at hblk ⊢
            have HBEL3 := Lib.hid hbel3
            have HBLK := Lib.hid hblk
            have hP3 : P < w3.heap.size := lt_of_blk hblk
            obtain ⟨⟨y0, y1, y2, y3, y4, y5, y6⟩, -⟩ := blk7 hblk
            clear hw3 hbel3 hblk e0 e1 e2 e3 e4 e5 e6 hP
            have i1 : (xf : Int) ≤ xe := by omega
            have i2 : (xe : Int) ≤ s.size := by omega
            have i3 : (0 : Int) ≤ xf := by omega
            go_wp2_with fail
            obtain ⟨wo, rfl⟩ : ∃ wo : World, wo = wr := ⟨_, rfl⟩
            go_loopw [13, 14] (fun tv iv wx => ∃ (k : Nat) (z : Int), k ≤ n1 ∧ z = (k : Int) - 1 ∧ iv = .int .i64 z ∧ tv = .string (rnB (nxt ((prs fs ts).drop k)) s x) ∧ Hid (Below w3.heap.size w3 wx)) (fun _ iv _ => (intOf iv + 1).toNat)
            case atStart => exact ⟨n1, (n1 : Int) - 1, Nat.le_refl _, rfl, rfl, by rw [HXX.out, hextX.out], Lib.hid (Below.refl _ _)⟩
            case round =>
              obtain ⟨k2, z, hk2, hz, rfl, rfl, HB4⟩ := hrel
              have Y0 := (HB4.out.cell (p := ⟨P, 0, none⟩) hP3).trans y0
              have Y5 := (HB4.out.cell (p := ⟨P, 5, none⟩) hP3).trans y5
              have hts := HSZ.out k2
              have hwx : Below w.heap.size w wr := HBEL.out.trans ((HBEL3.out.trans (HB4.out.mono HBEL3.out.size)).mono HBEL.out.size)
              have HWX := Lib.hid hwx
              clear hwx
              cases k2 with
              | zero =>
                obtain rfl : z = -1 := by omega
                have ht0 : rnB (nxt ((prs fs ts).drop 0)) s x = rnB f s x := by rw [List.drop_zero, HFF.out]
                rw [ht0] at hts ⊢
                obtain ⟨T, hT⟩ : ∃ T, T = rnB f s x := ⟨_, rfl⟩
                rw [← hT] at hts HSN ⊢
                have hsum : O.size + T.size ≤ 25000000 := by omega
                clear hT ht0 hz hk2
                go_wp2_with fail
                go_roundw
                case measure => simp [intOf]; omega
                case rel => exact ⟨j + 1, by go_num, by rw [HSN.out], Lib.hid ⟨hj2, HBEL3.out.trans (HB4.out.mono HBEL3.out.size)⟩⟩
              | succ k3 =>
                obtain rfl : z = (k3 : Int) := by omega
                have hk3 : k3 < n1 := by omega
                have hkf : k3 < fs.length := by rw [← HN1.out]; exact hk3
                have hkt : k3 < ts.length := by rw [← HN2.out]; exact hk3
                have pk : (k3 : Int) < n1 := by omega
                have pk0 : (0 : Int) ≤ k3 := by omega
                obtain ⟨b1, o1, rfl, l1, d1⟩ : ∃ b off, A1 = some ⟨b, off, none⟩ ∧ b < w.heap.size ∧ ∀ j, j < n1 → w.cell? ⟨b, off + j, none⟩ = some (.int .i64 (fs.getD j 0)) := by
                  rcases H1.out with h | h
                  · rw [h] at hkf; exact absurd hkf (by simp)
                  · exact h
                obtain ⟨b2, o2, rfl, l2, d2⟩ : ∃ b off, A2 = some ⟨b, off, none⟩ ∧ b < w.heap.size ∧ ∀ j, j < n1 → w.cell? ⟨b, off + j, none⟩ = some (.int .i64 (ts.getD j 0)) := by
                  rcases H2.out with h | h
                  · rw [h] at hkt; exact absurd hkt (by simp)
                  · exact h
                have E1 := (HWX.out.cell (p := ⟨b1, o1 + k3, none⟩) l1).trans (d1 k3 hk3)
                have E2 := (HWX.out.cell (p := ⟨b2, o2 + k3, none⟩) l2).trans (d2 k3 hk3)
                have hdr := prs_drop HLEQ.out hkf
                have hrange : 1 ≤ ts.getD k3 0 ∧ ts.getD k3 0 ≤ 1000000 := by
                  have := List.all_eq_true.1 HOK.out _ (getD_mem hkt)
                  simpa using this
                obtain ⟨F, hF⟩ : ∃ F, F = fs.getD k3 0 := ⟨_, rfl⟩
                rw [← hF] at E1 hdr
                obtain ⟨m, hm⟩ := Int.eq_ofNat_of_zero_le (show 0 ≤ ts.getD k3 0 by omega)
                rw [hm] at E2 hdr hrange
                have hm2 : m ≤ 1000000 := by omega
                have HDR := Lib.hid hdr
                clear d1 d2 hdr hrange hF hm hz hk2
                obtain ⟨T, hT⟩ : ∃ T, T = rnB (nxt ((prs fs ts).drop (k3 + 1))) s x := ⟨_, rfl⟩
                rw [← hT]
                have HTT := Lib.hid hT
                clear hT hts
                have xkq : x.kind = xk := by rw [HXX.out]
                have xiq : x.id = xi := by rw [HXX.out]
                by_cases hk5 : xk = 5
                · have q5 : ((xk : Int) == 5) = true := by simp [hk5]
                  by_cases hid : (xi : Int) = F
                  · have qid : ((xi : Int) == F) = true := by simpa using hid
                    have hnew : rnB (nxt ((prs fs ts).drop k3)) s x = ⟨#[40, 40]⟩ ++ dec m ++ ⟨#[41, 41]⟩ := by
                      rw [rnB_yes (n := (m : Int)) (by rw [xkq]; exact hk5) (by rw [HDR.out, xiq, hid]; exact nxt_cons_hit _ _ _)]
                      rfl
                    have HNEW := Lib.hid hnew
                    have HTD := Lib.hid (fun W => told_any 6 m W (by omega) hm2)
                    have hd7 : (dec m).size ≤ 7 := dec_size (k := 6) (by omega)
                    obtain ⟨U, hU⟩ : ∃ U, U = dec m := ⟨_, rfl⟩
                    rw [← hU] at HTD HNEW hd7
                    clear hnew hid hk5 hU xkq xiq
                    go_wp2_with fail
                    go_quiet (fail)
                    go_wp2_with fail
                    refine (HTD.out _).mono ?_
                    rintro e6 w6 ⟨rfl, hb6⟩
                    have HB6 : Hid (Below w3.heap.size w3 w6) := Lib.hid (HB4.out.trans (Below.mono (⟨hb6.os, hb6.tape, hb6.output, hb6.size, hb6.block⟩ : Below wr.heap.size wr w6) HB4.out.size))
                    clear hb6
                    go_wp2_with fail
                    go_roundw
                    case measure => simp [intOf]
                    case rel => exact ⟨k3, (k3 : Int) - 1, by omega, rfl, rfl, by rw [HNEW.out], HB6⟩
                  · have qid : ((xi : Int) == F) = false := by simpa using hid
                    have hsame : T = rnB (nxt ((prs fs ts).drop k3)) s x := by
                      rw [HTT.out]
                      exact rnB_same (by rw [HDR.out, xiq, nxt_cons_miss _ (fun e => hid e.symm)])
                    have HSM2 := Lib.hid hsame
                    clear hsame hid hk5 xkq xiq
                    go_wp2_with fail
                    go_quiet (fail)
                    go_wp2_with fail
                    go_roundw
                    case measure => simp [intOf]
                    case rel => exact ⟨k3, (k3 : Int) - 1, by omega, rfl, rfl, by rw [HSM2.out], Lib.hid ⟨HB4.out.os, HB4.out.tape, HB4.out.output, HB4.out.size, HB4.out.block⟩⟩
                · have q5 : ((xk : Int) == 5) = false := by simp; omega
                  have hsame : T = rnB (nxt ((prs fs ts).drop k3)) s x := by
                    rw [HTT.out]
                    exact rnB_kind (by rw [xkq]; exact hk5)
                  have HSM2 := Lib.hid hsame
                  clear hsame hk5 xkq xiq
                  go_wp2_with fail
                  go_quiet (fail)
                  go_wp2_with fail
                  go_roundw
                  case measure => simp [intOf]
                  case rel => exact ⟨k3, (k3 : Int) - 1, by omega, rfl, rfl, by rw [HSM2.out], Lib.hid ⟨HB4.out.os, HB4.out.tape, HB4.out.output, HB4.out.size, HB4.out.block⟩⟩
          · have p2 : ¬ (j : Int) < nl := by omega
            have hjn : (spans s).take j = spans s := by rw [show j = (spans s).length by have := HNL.out; omega]; exact List.take_length
            rw [hjn] at hol ⊢
            have hb := HBEL.out.trans (HR.out.bel.mono HBEL.out.size)
            have HB := Lib.hid hb
            obtain ⟨O, hO⟩ : ∃ O, O = rnS f s (spans s) := ⟨_, rfl⟩
            rw [← hO] at hol ⊢
            have hOl : O.size = (rnL (nxt (prs fs ts)) s (spans s)).length := by rw [hO, rnS_size, HFF.out]
            by_cases h2 : 2000 < O.size
            · have hr := rn_large HLEQ.out HOK.out (by rw [← hOl]; exact h2)
              have HRR : Hid (R = (⟨#[]⟩, 4)) := Lib.hid (by rw [HRES.out]; exact hr)
              have p3 : (2000 : Int) < O.size := by omega
              clear hr hO hOl hb h2 hjn
              go_wp2_with fail
              go_ret2
              exact ⟨by rw [HRR.out]; rfl, HB.out⟩
            · have hr := rn_ok HLEQ.out HOK.out (by rw [← hOl]; exact h2)
              have HRR : Hid (R = (O, 0)) := Lib.hid (by rw [HRES.out, hr, hO, HFF.out]; rfl)
              have p3 : ¬ (2000 : Int) < O.size := by omega
              clear hr hO hOl hb h2 hjn
              go_wp2_with fail
              go_ret2
              exact ⟨by rw [HRR.out]; rfl, HB.out⟩
  · have hr := rn_form (s := s) (fs := fs) (ts := ts) (by rw [← HN1.out, ← HN2.out]; exact hne)
    have HR : Hid (R = (⟨#[]⟩, 1)) := Lib.hid (by rw [HRES.out]; exact hr)
    have hq : ((n1 : Int) != (n2 : Int)) = true := by simp; omega
    have hq2 : ((n1 : Int) == (n2 : Int)) = false := by simp; omega
    clear hr hne
    go_enter Tryz.func10, Tryz.ntmps10
    go_wp2_with fail
    go_ret2
    exact ⟨by rw [HR.out]; rfl, Below.refl _ _⟩
end Go.Proofs.YticdapkljbillaaGreatDoor
