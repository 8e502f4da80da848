/- The law TopText: the walk. -/
import Derived.Test.YtjfpaahidfhkoaaDoorTtC
import Derived.WalkKit
import Derived.Lib.Hide
import Derived.Outline
import Derived.Deep.DeepCutAuto
import Derived.Deep.CutBlock
import Derived.Deep.LoopGhost
import Derived.Deep.QuietTactic
import Derived.BigQuiet
import Derived.BigRegion
import Derived.Lib.SmallJoins
import Derived.Laws.DeepStrings4
import Derived.Laws.EntriesVeiled
namespace Go.Proofs.YtjfpaahidfhkoaaDoor
open Go.RowKit

theorem shown_size (s : ByteArray) : (⟨(shownL s (spans s)).toArray⟩ : ByteArray).size ≤ s.size := by
  have h := shown_le s (spans s) [] (by simp)
  have e : (⟨(shownL s (spans s)).toArray⟩ : ByteArray).size = (shownL s (spans s)).length := by simp [ByteArray.size]
  omega
def lastOf (s : ByteArray) (i : Nat) : Int := if i = 0 then -1 else (srcs s).getD (i - 1) 0
structure RiseAt (s T : ByteArray) (i : Nat) (k : Int) : Prop where
  src : srcOf s i = (k, 0)
  up : lastOf s i < k
  next : lastOf s (i + 1) = k
  pos : 0 ≤ k
  le : k ≤ s.size
  lt : i < T.size → k < s.size
  byte : i < T.size → T.data.toList.getD i 0 = s.data.toList.getD k.toNat 0
  fin : i = T.size → k = s.size
theorem src_at {s T : ByteArray} (hT : T = ⟨(shownL s (spans s)).toArray⟩) {i : Nat} (hi : i ≤ T.size) : ∃ k, RiseAt s T i k := by
  obtain ⟨h1, h2, h3, h4⟩ := srcs_rise s
  have hTs : T.size = (allL (spans s)).length := by rw [hT, h2]; simp [ByteArray.size]
  have hl : (srcs s).length = (allL (spans s)).length + 1 := by simp [srcs]
  have hil : i < (srcs s).length := by omega
  have hg : ∀ (j : Nat) (hj : j < (srcs s).length), (srcs s).getD j 0 = (srcs s)[j] := fun j hj => by rw [List.getD_eq_getElem?_getD, List.getElem?_eq_getElem hj]; rfl
  have hin : i < (allL (spans s)).length → (srcs s).getD i 0 = (allL (spans s)).getD i 0 := fun h => by unfold srcs; exact getD_app _ _ _ _ h
  have hend : i = (allL (spans s)).length → (srcs s).getD i 0 = s.size := fun h => by
    unfold srcs
    rw [h, getD_app_right _ _ _ _ (Nat.le_refl _), Nat.sub_self]; rfl
  have hmem : i < (allL (spans s)).length → (allL (spans s)).getD i 0 ∈ allL (spans s) := fun h => by
    rw [List.getD_eq_getElem?_getD, List.getElem?_eq_getElem h]; exact List.getElem_mem h
  have hbd : 0 ≤ (srcs s).getD i 0 ∧ (srcs s).getD i 0 ≤ s.size := by
    by_cases h : i < (allL (spans s)).length
    · rw [hin h]; have := h3 _ (hmem h); omega
    · rw [hend (by omega)]; omega
  refine ⟨(srcs s).getD i 0, ⟨?_, ?_, ?_, hbd.1, hbd.2, ?_, ?_, ?_⟩⟩
  · rw [← refSource_eq]
    unfold refSource
    rw [if_neg]
    · rfl
    · rintro (h | h)
      · omega
      · rw [List.length_append, List.length_singleton] at h; omega
  · unfold lastOf
    by_cases h0 : i = 0
    · rw [if_pos h0]; omega
    · rw [if_neg h0, hg (i - 1) (by omega), hg i hil]
      exact List.pairwise_iff_getElem.1 h1 (i - 1) i (by omega) hil (by omega)
  · unfold lastOf
    rw [if_neg (by omega), Nat.add_sub_cancel]
  · intro h
    rw [hin (by omega)]
    exact (h3 _ (hmem (by omega))).2
  · intro h
    rw [hin (by omega)]
    have := h4 i (by omega)
    rw [hT]
    exact this
  · intro h
    exact hend (by omega)
/-- What holds behind the first loop. -/
def AfterOne (s : ByteArray) (w : World) (B nb : Nat) (wx : World) : Prop :=
  nb = bolds (spans s) ∧ (∃ F, Bld B (Lib.byteCells s.data.toList) F wx ∧ ∀ k, F k → w.heap.size ≤ k) ∧ Below w.heap.size w wx

set_option maxRecDepth 100000 in
set_option maxHeartbeats 8000000 in
theorem topText_any (s : ByteArray) (w : World) (hs : s.size ≤ 1048576) :
    Calls Tryd.prog 4 #[.string s] w (Quiet w (.bool true)) := by
  have HSP := Lib.hid (fun W => spans_any s W (by omega))
  have hsz2 : (s.size : Int) ≤ 1048576 := by omega
  go_enter Tryd.func4, Tryd.ntmps4
  go_wp2_with fail
  refine (awakeText_any _).mono ?_
  rintro e1 w1 ⟨rfl, hb1⟩
  have HB1 := Lib.hid hb1
  clear hb1
  go_wp2_with fail
  refine (HSP.out _).mono ?_
  rintro e2 w2 ⟨v, rfl, hown, hbel⟩
  obtain ⟨A, c, rfl, hA⟩ := own_slice hown (by omega)
  obtain ⟨B, hB⟩ : ∃ B, B = w1.heap.size := ⟨_, rfl⟩
  rw [World.size_alloc] at hown hbel
  rw [← hB] at hown hbel ⊢
  have hblk : w2.heap[B]? = some (.cells #[.pointer none, .slice none 0 0] 30 (0, 0)) := by
    rw [hbel.block B (by omega), hB]; exact heap_alloc_new w1 _
  have hB0 : w.heap.size ≤ B := by rw [hB]; exact HB1.out.size
  have hw2 : Below w.heap.size w w2 := (HB1.out.alloc HB1.out.size _).trans (hbel.mono (by omega))
  have hbld : Bld B (Lib.byteCells []) (fun k => k = B) w2 := ⟨.pointer none, .slice none 0 0, .inl rfl, hblk, World.ownsRow_nil _ _ _ _, by simp [Value.ownBlock], by funext k; simp [Value.ownBlock]⟩
  have HOWN := Lib.hid hown
  have HBLD := Lib.hid hbld
  have HW2 := Lib.hid hw2
  have hlz := spans_len s
  obtain ⟨nl, hnl⟩ : ∃ nl, nl = (spans s).length := ⟨_, rfl⟩
  rw [← hnl] at hA hlz HOWN ⊢
  have HNL := Lib.hid hnl
  have HA := Lib.hid hA
  have lB2 : B < w2.heap.size := lt_of_blk hblk
  clear hown hbel hnl hA hbld hblk hw2 HB1 hB
  have hnl2 : (nl : Int) ≤ 1048576 := by omega
  go_wp2_with fail
  go_loopw [3, 4, 18] (fun av bv ix wx => ∃ (j a nb : Nat), ix = .int .i64 j ∧ av = .int .i64 a ∧ bv = .int .i64 nb ∧ Hid (TtRow s w w2 B j a nb wx)) (fun _ _ ix _ => nl - (intOf ix).toNat)
  case atStart => exact ⟨0, 0, 0, rfl, rfl, rfl, Lib.hid ⟨Nat.zero_le _, spans_row s, rfl, ⟨_, HBLD.out, fun k h => .inl h⟩, Out.refl _ _, HW2.out⟩⟩
  case round =>
    obtain ⟨j, a, nb, rfl, rfl, rfl, HR⟩ := hrel
    have hjl : j ≤ nl := by have := HR.out.le; have := HNL.out; omega
    have hnb := HR.out.nb
    have hnbl : nb ≤ s.size := by rw [hnb]; exact bolds_take_le s j
    by_cases hj : j < nl
    · have hj2 : j < (spans s).length := by rw [← HNL.out]; exact hj
      have p1 : (j : Int) < nl := by omega
      obtain ⟨g, rfl, hA1, hA2⟩ := HA.out (by omega)
      obtain ⟨X, hX⟩ : ∃ X, X = (spans s)[j] := ⟨_, rfl⟩
      have hg := (HOWN.out.lt g rfl)
      have hcell : ∀ c u, c < 7 → X.cells[c]? = some u → wr.cell? ⟨g, j * 7 + c, none⟩ = some u := by
        intro c u hc hu
        have h1 := (HOWN.out.cellAt (j * 7 + c) (by rw [HNL.out]; omega))
        have h2 := flat_at (spans s) j hj2 c hc
        rw [← hX, hu] at h2
        have h3 : wr.heap[g]? = w2.heap[g]? := HR.out.out.block g hg.2 (fun e => by have := hg.1; omega)
        have h4 : wr.cell? ⟨g, j * 7 + c, none⟩ = w2.cell? ⟨g, j * 7 + c, none⟩ := World.cell?_of_block h3
        exact (h4.trans h1).trans h2
      obtain ⟨d1, d2, d3⟩ := drop_at hj2 HR.out.row
      have hst := strong_at hj2
      have hnt := nb_take hj2
      have hcv := cov_snoc hj2
      have hcl := cov_len s j
      obtain ⟨F, hB1, hF1⟩ := HR.out.bld
      rw [← hX] at d1 d2 d3 hst hnt hcv
      rw [← hnb] at hnt
      have l1 := d2.lt
      have l3 := d2.hi
      have HD3 := Lib.hid d3
      have HCV := Lib.hid hcv
      have HNT := Lib.hid hnt
      have HB2 := Lib.hid hB1
      have HF1 := Lib.hid hF1
      have HOUT := Lib.hid HR.out.out
      have HBELJ := Lib.hid HR.out.bel
      have HST := Lib.hid hst
      clear hX hcv hnt hB1 hF1 HR d2 d3 hg hst hnb
      obtain ⟨xk, xf, xe, xt, xs, xi, xb⟩ := X
      have e0 := hcell 0 _ (by omega) rfl
      have e1 := hcell 1 _ (by omega) rfl
      have e2 := hcell 2 _ (by omega) rfl
      have e3 := hcell 3 _ (by omega) rfl
      have e4 := hcell 4 _ (by omega) rfl
      have e5 := hcell 5 _ (by omega) rfl
      have e6 := hcell 6 _ (by omega) rfl
      clear hcell
      simp only [Nat.add_zero] at e0
      simp only at d1 l1 l3 HD3 HCV HNT HST
      subst d1
      go_upto_region 8 with (fail)
      obtain ⟨P, hP⟩ : ∃ P, P = wr.heap.size := ⟨_, rfl⟩
      obtain ⟨w3, hw3⟩ : ∃ w3, w3 = wr.alloc (.cells #[.int .i64 xk, .int .i64 xf, .int .i64 xe, .string xt, .string xs, .int .i64 xi, .bool xb] 34) := ⟨_, rfl⟩
      have hblk : w3.heap[P]? = some (.cells #[.int .i64 xk, .int .i64 xf, .int .i64 xe, .string xt, .string xs, .int .i64 xi, .bool xb] 34 (0, 0)) := by rw [hw3, hP]; exact heap_alloc_new wr _
      have hbel3 : Below w.heap.size w w3 := by rw [hw3]; exact HBELJ.out.alloc HBELJ.out.size _
      have hout3 : Out (fun k => k = B) w2 w3 := by rw [hw3]; exact HOUT.out.trans (Out.of_below (F := fun k => k = B) ((Below.refl _ _).alloc (Nat.le_refl _) _)) (fun _ _ h => h)
      have hbld3 : Bld B (Lib.byteCells (covL s ((spans s).take j))) F w3 := by rw [hw3]; exact HB2.out.loc (fun k hk => Below.heap_alloc wr _ k (HB2.out.lt k hk))
      have hPF : ¬ F P := fun hf => by have := HB2.out.lt P hf; omega
      have hP2 : w2.heap.size ≤ P := by rw [hP]; exact HOUT.out.size
      rw [← hw3, ← hP]
      have HBLK := Lib.hid hblk
      have HBEL3 := Lib.hid hbel3
      have HOUT3 := Lib.hid hout3
      have HBLD3 := Lib.hid hbld3
      obtain ⟨⟨y0, y1, y2, y3, y4, y5, y6⟩, -⟩ := blk7 hblk
      clear hw3 hP hblk hbel3 hout3 hbld3 e0 e1 e2 e3 e4 e5 e6 HB2 HOUT HBELJ
      have q1 : ((xf : Int) != (xf : Int)) = false := by simp
      have i1 : ¬ (xe : Int) ≤ xf := by omega
      have i2 : ¬ (s.size : Int) < xe := by omega
      have i3 : (xf : Int) ≤ xe := by omega
      have i4 : (xe : Int) ≤ s.size := by omega
      have i5 : (0 : Int) ≤ xf := by omega
      go_wp2_with fail
      refine (writeString_any B _ (s.extract xf xe) F _ HBLD3.out ?_).mono ?_
      · have hl1 : (Lib.byteCells (covL s ((spans s).take j))).length = (covL s ((spans s).take j)).length := by simp [Lib.byteCells]
        have hl2 : (s.extract xf xe).size ≤ s.size := by rw [ByteArray.size_extract]; omega
        omega
      rintro e4 w4 ⟨rfl, F4, hB4, hg4⟩
      have hblk4 : w4.heap[P]? = some (.cells #[.int .i64 xk, .int .i64 xf, .int .i64 xe, .string xt, .string xs, .int .i64 xi, .bool xb] 34 (0, 0)) := (hg4.out.block P (lt_of_blk HBLK.out) hPF).trans HBLK.out
      obtain ⟨⟨z0, z1, z2, z3, z4, z5, z6⟩, -⟩ := blk7 hblk4
      have hF4 : ∀ k, F4 k → k = B ∨ w2.heap.size ≤ k := fun k hk => by
        rcases hg4.new k hk with h | h
        · exact HF1.out k h
        · exact .inr (Nat.le_trans HOUT3.out.size h)
      have hout4 : Out (fun k => k = B) w2 w4 := HOUT3.out.trans hg4.out (fun n hn hf => by
        rcases HF1.out n hf with h | h
        · exact h
        · omega)
      have hbel4 : Below w.heap.size w w4 := HBEL3.out.trans (hg4.out.below HBEL3.out.size (fun k hk => by
        rcases HF1.out k hk with h | h
        · omega
        · exact Nat.le_trans HW2.out.size h))
      have hcat : Lib.byteCells (covL s ((spans s).take j)) ++ Lib.strCells (s.extract xf xe) = Lib.byteCells (covL s ((spans s).take (j + 1))) := by
        rw [HCV.out]
        simp [Lib.byteCells, Lib.strCells, covB]
      rw [hcat] at hB4
      have HFIN := Lib.hid (fun (m : Nat) (hm : m = bolds ((spans s).take (j + 1))) => (⟨hj2, HD3.out, hm, ⟨F4, hB4, hF4⟩, hout4, hbel4⟩ : TtRow s w w2 B (j + 1) xe m w4))
      clear hB4 hg4 hF4 hout4 hbel4 hcat y0 y1 y2 y3 y4 y5 y6 hblk4
      by_cases hk : xk = 7
      · have k1 : ((xk : Int) == 7) = true := by simp [hk]
        have hb : xb = true := by rw [HST.out]; simp [hk]
        have HF := Lib.hid (HFIN.out (nb + 1) (by rw [HNT.out, if_pos hk]))
        subst hb
        clear hk HFIN HST HNT HCV
        go_wp2_with fail
        go_roundw
        case measure => simp [intOf]; omega
        case rel => exact ⟨j + 1, xe, nb + 1, by go_num, rfl, by go_num, HF⟩
      · have k1 : ((xk : Int) == 7) = false := by simp; omega
        have HF := Lib.hid (HFIN.out nb (by rw [HNT.out, if_neg hk, Nat.add_zero]))
        have hb : xb = decide (nb % 2 = 1) := by rw [HST.out, HNT.out, if_neg hk, Nat.add_zero]; simp [hk]
        by_cases hp : nb % 2 = 1
        · have m1 : ((nb : Int).tmod 2 == 1) = true := by rw [mod_odd]; simp [hp]
          have m2 : ((nb : Int) % 2 == 1) = true := by simp; omega
          have hb2 : xb = true := by rw [hb]; simp [hp]
          subst hb2
          clear hk HFIN HST HNT HCV hp hb
          go_wp2_with fail
          go_roundw
          case measure => simp [intOf]; omega
          case rel => exact ⟨j + 1, xe, nb, by go_num, rfl, rfl, HF⟩
        · have m1 : ((nb : Int).tmod 2 == 1) = false := by rw [mod_odd]; simp [hp]
          have m2 : ((nb : Int) % 2 == 1) = false := by simp; omega
          have hb2 : xb = false := by rw [hb]; simp [hp]
          subst hb2
          clear hk HFIN HST HNT HCV hp hb
          go_wp2_with fail
          go_roundw
          case measure => simp [intOf]; omega
          case rel => exact ⟨j + 1, xe, nb, by go_num, rfl, rfl, HF⟩
    · have p1 : ¬ (j : Int) < nl := by omega
      have hje : j = (spans s).length := by have := HNL.out; omega
      have hrow := HR.out.row
      rw [hje, List.drop_length] at hrow
      have ha : a = s.size := hrow
      rw [hje, List.take_length] at hnb
      obtain ⟨F, hB1, hF1⟩ := HR.out.bld
      rw [hje, List.take_length, cov_all] at hB1
      have hfin : AfterOne s w B nb wr := ⟨hnb, ⟨F, hB1, fun k hk => by
        rcases hF1 k hk with h | h
        · omega
        · exact Nat.le_trans HW2.out.size h⟩, HR.out.bel⟩
      have HFIN := Lib.hid hfin
      subst ha
      clear hfin hB1 hF1 hnb hrow HR hje
      obtain ⟨T, hT⟩ : ∃ T : ByteArray, T = ⟨(shownL s (spans s)).toArray⟩ := ⟨_, rfl⟩
      have HP : Hid (∀ W, Calls Tryd.prog 12 #[.string s] W (Quiet W (.string T))) := Lib.hid fun W => by rw [hT]; exact plainOf_all s W (by omega)
      obtain ⟨E, hE⟩ : ∃ E : ByteArray, E = ⟨(escL s.data.toList).toArray⟩ := ⟨_, rfl⟩
      have hEs : E.size ≤ 4000000 := by
        have h1 := escL_len s.data.toList
        have h2 : E.size = (escL s.data.toList).length := by rw [hE]; simp [ByteArray.size]
        have h3 : s.data.toList.length = s.size := by rw [Array.length_toList]; rfl
        omega
      have HE1 : Hid (∀ W, Calls Tryd.prog 14 #[.string s] W (Quiet W (.string E))) := Lib.hid fun W => by rw [hE]; exact escaped_any s W (by omega)
      have HE2 : Hid (∀ W, Calls Tryd.prog 12 #[.string E] W (Quiet W (.string s))) := Lib.hid fun W => by
        have h := plainOf_all E W (by omega)
        have e : (⟨(shownL E (spans E)).toArray⟩ : ByteArray) = s := by rw [hE, esc_shown]
        rwa [e] at h
      have HPA := Lib.hid (fun W => parts_any s W (by omega))
      have HSRC := Lib.hid (srcs_rise s)
      have HTT := Lib.hid hT
      have HSO := Lib.hid (fun (n : Nat) W (h : n ≤ s.size) => source_any s (n : Int) W (by omega) (by omega))
      have hTs : T.size ≤ s.size := by
        rw [hT]
        exact shown_size s
      have hne := (spans_strong s).2
      have hn0 : nb % 2 = 0 := by have := HFIN.out.1; rw [this]; exact hne
      have m1 : ((nb : Int).tmod 2 != 0) = false := by
        have : (nb : Int).tmod 2 = 0 := by rw [Int.tmod_eq_emod_of_nonneg (by omega)]; omega
        rw [this]; rfl
      have m2 : ((nb : Int) % 2 != 0) = false := by
        have : (nb : Int) % 2 = 0 := by omega
        rw [this]; rfl
      have q0 : ((s.size : Int) != (s.size : Int)) = false := by simp
      clear hT hE hne hn0 HOWN HBLD HNL HA
      go_wp2_with fail
      refine (HP.out _).mono ?_
      rintro e3 w3 ⟨rfl, hb3⟩
      obtain ⟨-, ⟨F, hB1, hF1⟩, hbel⟩ := HFIN.out
      have hB3 : Bld B (Lib.byteCells s.data.toList) F w3 := hB1.loc (fun k hk => hb3.block k (hB1.lt k hk))
      have hbel3 : Below w.heap.size w w3 := hbel.trans (hb3.mono hbel.size)
      have HIB := Lib.hid (hB3.isBuilder hF1)
      have HB3 := Lib.hid hbel3
      clear hb3 hB1 hF1 hbel hB3 hbel3 HFIN
      go_wp2_with fail
      refine (Tryd.Builder_String_any w.heap.size B s.data.toList _ HIB.out HB3.out.size).mono ?_
      rintro e4 w4 ⟨rfl, hb4⟩
      have HB4 := Lib.hid (HB3.out.trans hb4)
      have hss : (⟨s.data.toList.toArray⟩ : ByteArray) = s := by simp
      rw [hss]
      clear hb4 HB3 HIB hss
      go_wp2_with fail
      refine (HE1.out _).mono ?_
      rintro e5 w5 ⟨rfl, hb5⟩
      have HB5 := Lib.hid (HB4.out.trans (hb5.mono HB4.out.size))
      clear hb5 HB4
      go_wp2_with fail
      refine (HE2.out _).mono ?_
      rintro e6 w6 ⟨rfl, hb6⟩
      have HB6 := Lib.hid (HB5.out.trans (hb6.mono HB5.out.size))
      clear hb6 HB5
      go_wp2_with fail
      refine (HPA.out _).mono ?_
      rintro e7 w7 ⟨v7, rfl, hown7, hb7⟩
      have HB7 := Lib.hid (HB6.out.trans (hb7.mono HB6.out.size))
      obtain ⟨a7, c7, rfl, -⟩ := own_slice' hown7
      have HO7 := Lib.hid hown7
      clear hb7 HB6 hown7
      go_wp2_with fail
      refine (joinParts_any s _ _ hs HO7.out).mono ?_
      rintro e8 w8 ⟨rfl, hb8⟩
      have HB8 := Lib.hid (HB7.out.trans (hb8.mono HB7.out.size))
      clear hb8 HB7 HO7 m1 m2 q0
      go_wp2_with fail
      go_loopw [9, 99] (fun lv ix wx => ∃ (i : Nat) (m : Int), i ≤ T.size + 1 ∧ ix = .int .i64 i ∧ lv = .int .i64 m ∧ Hid (m = lastOf s i) ∧ Hid (Below w.heap.size w wx)) (fun _ ix _ => T.size + 1 - (intOf ix).toNat)
      case atStart => exact ⟨0, -1, Nat.zero_le _, rfl, rfl, Lib.hid rfl, HB8⟩
      case round =>
        obtain ⟨i, m, hi, rfl, rfl, HM, HBR⟩ := hrel
        by_cases hlt : i ≤ T.size
        · have p2 : (i : Int) < (T.size : Int) + 1 := by omega
          obtain ⟨k, hk⟩ := src_at HTT.out hlt
          have hk1 := hk.pos
          have hk2 := hk.up
          rw [← HM.out] at hk2
          have HK := Lib.hid hk
          have hso := HSO.out i
          rw [hk.src] at hso
          have HS := Lib.hid hso
          obtain ⟨kn, rfl⟩ := Int.eq_ofNat_of_zero_le hk1
          have HN : Hid ((kn : Int) = lastOf s (i + 1)) := Lib.hid hk.next.symm
          have g1 : decide ((kn : Int) ≤ m) = false := decide_eq_false (by omega)
          by_cases hi2 : i < T.size
          · have d1 : decide ((i : Int) < (T.size : Int)) = true := decide_eq_true (by omega)
            have d2 : decide (i < T.size) = true := decide_eq_true hi2
            have hkl : kn < s.size := by have := hk.lt hi2; omega
            have hby := hk.byte hi2
            have q1 : ((i : Int) == (T.size : Int)) = false := by simp; omega
            have q2 : decide ((s.size : Int) ≤ (kn : Int)) = false := decide_eq_false (by omega)
            have q2' : decide (s.size ≤ kn) = false := decide_eq_false (by omega)
            have hbe : s[kn] = T[i] := by
              rw [Int.toNat_natCast] at hby
              have e1 : T.data.toList.getD i 0 = T[i] := by rw [List.getD_eq_getElem?_getD, List.getElem?_eq_getElem (by rw [Array.length_toList]; exact hi2)]; rfl
              have e2 : s.data.toList.getD kn 0 = s[kn] := by rw [List.getD_eq_getElem?_getD, List.getElem?_eq_getElem (by rw [Array.length_toList]; exact hkl)]; rfl
              rw [← e1, ← e2, hby]
            obtain ⟨cb, hcb⟩ : ∃ cb : Int, cb = (T[i].toNat : Int) := ⟨_, rfl⟩
            have x1 : ∀ W, (Instr.index 9 (.string s) (.int .i64 (kn : Int))).run Tryd.prog W = .ok (.int .u8 cb) W := fun W => by
              rw [index_at (P := Tryd.prog) (t := 9) (s := s) (k := .i64) (i := (kn : Int)) (n := kn) Tryd.underlying9 rfl hkl W, hbe, hcb]
            have x2 : ∀ W, (Instr.index 9 (.string T) (.int .i64 (i : Int))).run Tryd.prog W = .ok (.int .u8 cb) W := fun W => by
              rw [index_at (P := Tryd.prog) (t := 9) (s := T) (k := .i64) (i := (i : Int)) (n := i) Tryd.underlying9 rfl hi2 W, hcb]
            have q3 : (cb != cb) = false := by simp
            clear hk hso hby hbe hcb hk2
            go_wp2_with fail
            refine (HS.out _ (by omega)).mono ?_
            rintro e9 w9 ⟨rfl, hb9⟩
            have HB9 := Lib.hid (HBR.out.trans (hb9.mono HBR.out.size))
            clear hb9 HBR
            go_wp2_with fail
            go_big_quiet (fail)
            go_wp2_with fail
            go_roundw
            case measure => simp [intOf]; omega
            case rel => exact ⟨i + 1, kn, by omega, by go_num, rfl, HN, Lib.hid (below_drewN' HB9.out _)⟩
          · have d1 : decide ((i : Int) < (T.size : Int)) = false := decide_eq_false (by omega)
            have d2 : decide (i < T.size) = false := decide_eq_false hi2
            have hks := hk.fin (by omega)
            have q1 : ((i : Int) == (T.size : Int)) = true := by simp; omega
            have q2 : ((kn : Int) != (s.size : Int)) = false := by simp; omega
            clear hk hso hk2 hks
            go_wp2_with fail
            refine (HS.out _ (by omega)).mono ?_
            rintro e9 w9 ⟨rfl, hb9⟩
            have HB9 := Lib.hid (HBR.out.trans (hb9.mono HBR.out.size))
            clear hb9 HBR
            go_wp2_with fail
            go_big_quiet (fail)
            go_wp2_with fail
            go_roundw
            case measure => simp [intOf]; omega
            case rel => exact ⟨i + 1, kn, by omega, by go_num, rfl, HN, Lib.hid (below_drewN' HB9.out _)⟩
        · have p2 : ¬ (i : Int) < (T.size : Int) + 1 := by omega
          go_wp2_with fail
          go_ret
          exact ⟨rfl, HBR.out⟩
end Go.Proofs.YtjfpaahidfhkoaaDoor
