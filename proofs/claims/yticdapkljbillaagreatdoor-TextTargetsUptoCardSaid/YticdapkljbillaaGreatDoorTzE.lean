/- The reference's token where two opening parentheses stand. -/
import Derived.Test.YticdapkljbillaaGreatDoorTzD
import Derived.WalkKit
import Derived.Lib.Hide
import Derived.Outline
import Derived.Deep.DeepCutAuto
import Derived.Deep.CutBlock
import Derived.Deep.QuietTactic
import Derived.BigQuiet
import Derived.Laws.DeepStrings4
namespace Go.Proofs.YticdapkljbillaaGreatDoor
open Go.RowKit

/-- The number of the first digits from a place on. -/
def decAt (s : ByteArray) (b n : Nat) : Nat := decV ((s.data.toList.drop b).take n)
theorem decV_snoc (l : List UInt8) (c : UInt8) : decV (l ++ [c]) = decV l * 10 + (c.toNat - 48) := by unfold decV; rw [List.foldl_append]; rfl
theorem decAt_step {s : ByteArray} {b n : Nat} (h : b + n < s.size) : decAt s b (n + 1) = decAt s b n * 10 + ((s[b + n]'h).toNat - 48) := by
  unfold decAt
  have h1 := Lib.data_getElem? s (b + n) h
  rw [← List.getElem?_drop] at h1
  rw [List.take_add_one, h1]
  simp only [Option.toList_some]
  exact decV_snoc _ _
theorem decAt_bound {s : ByteArray} {b n : Nat} (h : b + n ≤ runTo cDigit s b) : decAt s b n < 10 ^ n := by
  unfold decAt
  have h1 : ((s.data.toList.drop b).take n).length ≤ n := List.length_take_le _ _
  refine Nat.lt_of_lt_of_le (decV_bound _ fun c hc => ?_) (Nat.pow_le_pow_right (by omega) h1)
  unfold runTo at h
  obtain ⟨i, hi, e⟩ := List.getElem_of_mem hc
  have hi2 : i < n := by omega
  obtain ⟨d, h2, h3⟩ := takeWhile_all cDigit (s.data.toList.drop b) i (by omega)
  rw [List.getElem_take] at e
  rw [List.getElem?_eq_getElem (by rw [List.length_take] at hi; omega)] at h2
  rw [← e, Option.some.inj h2]; exact h3
theorem decAt_small {s : ByteArray} {b n : Nat} (h : b + n ≤ runTo cDigit s b) (h8 : n ≤ 8) : decAt s b n < 100000000 :=
  Nat.lt_of_lt_of_le (decAt_bound h) (Nat.le_trans (Nat.pow_le_pow_right (by omega) h8) (by decide))
theorem decAt_eq {s : ByteArray} {b d : Nat} (h : b + d ≤ s.size) : decAt s b d = decV (s.extract b (b + d)).data.toList := by
  unfold decAt
  rw [Lib.extract_data, Nat.add_sub_cancel_left]

def pDigit (n : Int) : Prop := 48 ≤ n ∧ n ≤ 57
theorem cDigit_p (c : UInt8) : cDigit c = true ↔ pDigit (c.toNat : Int) := by unfold cDigit pDigit; rw [decide_eq_true_eq]

/-- What makes a reference. -/
def refGood (s : ByteArray) (a d : Nat) : Prop := 1 ≤ d ∧ d ≤ 7 ∧ bAt s (a + 2) ≠ 48 ∧ decAt s (a + 2) d ≤ 1000000 ∧ pre s (a + 2 + d) ⟨#[41, 41]⟩ = true

/-- What is known of the loop over the digits. -/
structure DigRel (s r : ByteArray) (a d m : Nat) (N : Nat) : Prop where
  lo : 2 ≤ m
  hi : m ≤ 10
  dig : m ≤ 2 + d
  val : N = decAt s (a + 2) (m - 2)
theorem DigRel.small {s r : ByteArray} {a d m N : Nat} (h : DigRel s r a d m N) (hd : a + 2 + d = runTo cDigit s (a + 2)) : N < 100000000 := by
  rw [h.val]
  have h1 := h.lo; have h2 := h.hi; have h3 := h.dig
  exact decAt_small (by omega) (by omega)
theorem DigRel.next {s r : ByteArray} {a d m N : Nat} (h : DigRel s r a d m N) (hR : Rest s a r) (hm : m < r.size) (h10 : m < 10) (hlt : m < 2 + d) : DigRel s r a d (m + 1) (N * 10 + ((r[m]'hm).toNat - 48)) := by
  have h1 := h.lo
  refine ⟨by omega, by omega, by omega, ?_⟩
  obtain ⟨h2, h3⟩ := hR.at hm
  rw [h.val, show m + 1 - 2 = (m - 2) + 1 by omega, decAt_step (by omega), h3]
  congr 3
  have e : a + 2 + (m - 2) = a + m := by omega
  simp only [e]
set_option maxRecDepth 100000 in
set_option maxHeartbeats 4000000 in
theorem token_ref_no (s : ByteArray) (a : Nat) (w : World) (hs : s.size ≤ 4000000000) (ha : a < s.size) (k1 : pre s a ⟨#[40, 40]⟩ = true) (d : Nat) (hd : a + 2 + d = runTo cDigit s (a + 2)) (hg : ¬ refGood s a d) :
    Calls Tryz.prog 35 #[.string s, .int .i64 a] w (Quiet w (oneSp s a).val) := by
  obtain ⟨V, hV⟩ : ∃ V, V = (oneSp s a).val := ⟨_, rfl⟩
  rw [← hV]
  have HV0 := Lib.hid hV
  clear hV
  have hp := pre_two (s := s) (n := a) (c := 40) (d := 40)
  rw [show ((40 : UInt8).toNat : Int) = 40 from rfl] at hp
  have hz : a + 2 ≤ s.size := pre_le k1 (Nat.le_of_lt ha)
  have h0 : (s[a].toNat : Int) = 40 := by rw [← bAt_lt ha]; exact (hp.1 k1).1
  have p1 : (a : Int) < s.size := by omega
  have p2 : (a : Int) + 1 ≤ s.size := by omega
  go_enter Tryz.func35, Tryz.ntmps35
  go_upto_region 3 with (fail)
  have hR := rest_mk (Nat.le_of_lt ha)
  generalize s.extract a s.size = r at hR ⊢
  have r1 : 0 < r.size := by have := hR.size; omega
  have r2 : (0 : Int) < r.size := by omega
  have r3 : (r.size : Int) ≤ 4000000000 := by have := hR.size; omega
  obtain ⟨g1, g2⟩ := hR.at r1
  simp only [Nat.add_zero] at g2
  have HR := Lib.hid hR
  have e0 : ((r[0].toNat : Int) == 92) = false := by rw [g2, h0]; rfl
  have e1 : ((r[0].toNat : Int) == 96) = false := by rw [g2, h0]; rfl
  have P1 := Lib.hid ((hR.pre ⟨#[91, 91]⟩).trans (pre_not ha (by decide) (fun e => by rw [e] at h0; revert h0; decide)))
  have P2 := Lib.hid ((hR.pre ⟨#[40, 40]⟩).trans k1)
  have r4 : 2 ≤ r.size := by have := hR.size; omega
  have r5 : (2 : Int) ≤ r.size := by omega
  have hrun := runTo_le (cls := cDigit) hz
  rw [← hd] at hrun
  have hrz1 : r.size + a ≤ s.size := by have := hR.size; omega
  have hrz2 : s.size ≤ r.size + a := by have := hR.size; omega
  have hin := fun i h1 h2 => runs_in (p := pDigit) (fun c hc => (cDigit_p c).1 hc) (s := s) (a := a + 2) (i := i) h1 h2
  have hst := run_stop (p := pDigit) (fun c hc => (cDigit_p c).2 hc) (s := s) (a := a + 2)
  rw [← hd] at hin hst
  have HIN := Lib.hid hin
  have HST := Lib.hid hst
  have HD := Lib.hid hd
  have HG := Lib.hid hg
  have HV : Hid (V = .agg #[.int .i64 1, .int .i64 a, .int .i64 ((a : Int) + 1), .string (s.extract a (a + 1)), .string ⟨#[]⟩, .int .i64 0, .bool false]) := Lib.hid (by rw [HV0.out]; rfl)
  clear g1 g2 h0 hp k1 HV0 hin hst hd hg
  go_wp2_with fail
  refine (Tryz.strings_HasPrefix _ _ _).mono ?_
  rintro e w' ⟨rfl, rfl⟩
  rw [P1.out]
  go_wp2_with fail
  refine (Tryz.strings_HasPrefix _ _ _).mono ?_
  rintro e w' ⟨rfl, rfl⟩
  rw [P2.out]
  go_wp2_with fail
  go_loopw [12, 13] (fun k n wr => ∃ m N : Nat, k = .int .i64 m ∧ n = .int .i64 N ∧ Hid (DigRel s r a d m N) ∧ Hid (wr.heap[w.heap.size]? = some (.cells #[.int .i64 0, .int .i64 0, .int .i64 0, .string ⟨#[]⟩, .string ⟨#[]⟩, .int .i64 0, .bool false] 34 (0, 0)) ∧ wr.heap[w.heap.size + 1]? = some (.cells #[.int .i64 1, .int .i64 a, .int .i64 ((a : Int) + 1), .string (s.extract a (a + 1)), .string ⟨#[]⟩, .int .i64 0, .bool false] 34 (0, 0)) ∧ Below w.heap.size w wr ∧ w.heap.size + 1 < wr.heap.size)) (fun k _ _ => r.size - (intOf k).toNat)
  case atStart => exact ⟨2, 0, rfl, rfl, Lib.hid ⟨by omega, by omega, by omega, rfl⟩, Lib.hid (two_new (Below.refl _ _))⟩
  case round =>
    obtain ⟨m, N, rfl, rfl, HM, HK⟩ := hrel
    obtain ⟨m1, m2, m3, m4⟩ := HM.out
    have n1 := HM.out.small HD.out
    have n2 : (N : Int) ≤ 100000000 := by omega
    have n3 : (0 : Int) ≤ N := by omega
    have m5 : (2 : Int) ≤ m := by omega
    have m6 : (m : Int) ≤ r.size := by omega
    have HN := Lib.hid m4
    clear m4 n1
    by_cases hA : m < 2 + d ∧ m < 10
    · obtain ⟨hm1, hm2⟩ := hA
      have hmr : m < r.size := by omega
      obtain ⟨gm, gx⟩ := HR.out.at hmr
      have hdg := HIN.out (a + m) (by omega) (by omega)
      have hnext := HM.out.next HR.out hmr hm2 hm1
      obtain ⟨c, hc⟩ : ∃ c : UInt8, r[m]'hmr = c := ⟨_, rfl⟩
      rw [bAt_lt gm, ← gx, hc] at hdg
      rw [hc] at hnext
      have HDG := Lib.hid ((cDigit_p _).2 hdg)
      obtain ⟨x1, x2⟩ := hdg
      have HNEXT := Lib.hid hnext
      clear hnext
      have q3 : (m : Int) < 10 := by omega
      clear gx gm
      go_wp2_with (go_at_call 49; refine (refDigit_any _ _).mono ?_; rintro e w' ⟨rfl, rfl⟩; rw [HDG.out])
      go_roundw
      case measure => simp [intOf]; omega
      case rel => exact ⟨m + 1, _, by go_num, by congr 1; omega, HNEXT, HK⟩
    · have HA := Lib.hid hA
      clear hA
      by_cases hmr : m < r.size
      · obtain ⟨gm, gx⟩ := HR.out.at hmr
        cases hdg : cDigit r[m]
        · have HDG := Lib.hid hdg
          have hmd : m = 2 + d := by
            refine Nat.le_antisymm m3 (Nat.le_of_not_lt fun hc => ?_)
            have := HIN.out (a + m) (by omega) (by omega)
            rw [bAt_lt gm, ← gx] at this
            rw [(cDigit_p _).2 this] at hdg
            cases hdg
          have HMD := Lib.hid hmd
          clear gx gm hdg hmd
          by_cases hm2' : m = 2
          · subst hm2'
            obtain ⟨hA', hB', hbw, hsz⟩ := HK.out
            obtain ⟨⟨a0, a1, a2, a3, a4, a5, a6⟩, f0, f1, f2, f3, f4, f5, f6⟩ := blk7 hA'
            obtain ⟨⟨c0, c1, c2, c3, c4, c5, c6⟩, x0, x1, x2, x3, x4, x5, x6⟩ := blk7 hB'
            go_wp2_with (go_at_call 49; refine (refDigit_any _ _).mono ?_; rintro e w' ⟨rfl, rfl⟩; rw [HDG.out])
            refine bodyPost_ret (v := V) ?_ rfl ?_
            · simp [results, Tryz.results35, go_sem, a0, a1, a2, a3, a4, a5, a6]; exact HV.out.symm
            · refine ⟨rfl, ?_⟩
              repeat (with_reducible refine Below.setCell ?_ (by first | exact Nat.le_refl _ | exact Nat.le_succ _) _)
              exact hbw
          · have hm3' : (2 : Int) < m := by omega
            by_cases hm9 : m ≤ 9
            · have hm9' : (m : Int) ≤ 9 := by omega
              have hr2 : 2 < r.size := by omega
              obtain ⟨gm, gx⟩ := HR.out.at hr2
              obtain ⟨u, hu⟩ : ∃ u, u = ((r[2].toNat : Int) != 48) := ⟨_, rfl⟩
              obtain ⟨v, hv⟩ : ∃ v, v = decide ((N : Int) ≤ 1000000) := ⟨_, rfl⟩
              obtain ⟨b, hb, hhas⟩ := has_vars (r.extract m r.size) ⟨#[41, 41]⟩
              have hq : r.extract m r.size = s.extract (a + m) s.size := by rw [HR.out.cut (Nat.le_refl _) (by omega)]; congr 1; have := HR.out.size; have := HR.out.le; omega
              have hbad : Hid (¬ (u = true ∧ v = true ∧ b = true)) := Lib.hid (by
                rintro ⟨h1, h2, h3⟩
                have h4 := HMD.out
                have h5 := HN.out
                rw [show m - 2 = d by omega] at h5
                refine HG.out ⟨by omega, by omega, ?_, ?_, ?_⟩
                · rw [hu, bne_iff_ne, gx, ← bAt_lt gm] at h1; exact h1
                · rw [hv, decide_eq_true_eq] at h2; omega
                · rw [hb, hq, show a + m = a + 2 + d by omega] at h3; exact h3)
              have HHAS := Lib.hid hhas
              have u' := hu.symm
              have v' := hv.symm
              clear gm gx hb hq hhas hu hv
              obtain ⟨hA', hB', hbw, hsz⟩ := HK.out
              obtain ⟨⟨a0, a1, a2, a3, a4, a5, a6⟩, f0, f1, f2, f3, f4, f5, f6⟩ := blk7 hA'
              obtain ⟨⟨c0, c1, c2, c3, c4, c5, c6⟩, x0, x1, x2, x3, x4, x5, x6⟩ := blk7 hB'
              go_wp2_with (first | (go_at_call 49; refine (refDigit_any _ _).mono ?_; rintro e w' ⟨rfl, rfl⟩; rw [HDG.out]) | (go_at_call 48; refine (HHAS.out _).mono ?_; rintro e w' ⟨rfl, rfl⟩))
              all_goals first
                | (exfalso; refine hbad.out ⟨?_, ?_, ?_⟩ <;> first | assumption | rfl)
                | (refine bodyPost_ret (v := V) ?_ rfl ?_
                   · simp [results, Tryz.results35, go_sem, a0, a1, a2, a3, a4, a5, a6]; exact HV.out.symm
                   · refine ⟨rfl, ?_⟩
                     repeat (with_reducible refine Below.setCell ?_ (by first | exact Nat.le_refl _ | exact Nat.le_succ _) _)
                     exact hbw)
            · have hm9' : ¬ (m : Int) ≤ 9 := by omega
              obtain ⟨hA', hB', hbw, hsz⟩ := HK.out
              obtain ⟨⟨a0, a1, a2, a3, a4, a5, a6⟩, f0, f1, f2, f3, f4, f5, f6⟩ := blk7 hA'
              obtain ⟨⟨c0, c1, c2, c3, c4, c5, c6⟩, x0, x1, x2, x3, x4, x5, x6⟩ := blk7 hB'
              go_wp2_with (go_at_call 49; refine (refDigit_any _ _).mono ?_; rintro e w' ⟨rfl, rfl⟩; rw [HDG.out])
              refine bodyPost_ret (v := V) ?_ rfl ?_
              · simp [results, Tryz.results35, go_sem, a0, a1, a2, a3, a4, a5, a6]; exact HV.out.symm
              · refine ⟨rfl, ?_⟩
                repeat (with_reducible refine Below.setCell ?_ (by first | exact Nat.le_refl _ | exact Nat.le_succ _) _)
                exact hbw
        · have HDG := Lib.hid hdg
          have hlt : m < 2 + d := by
            refine Nat.lt_of_le_of_ne m3 fun hc => ?_
            have h1 := HST.out (by omega)
            rw [show a + 2 + d = a + m by omega, bAt_lt gm, ← gx] at h1
            exact h1 ((cDigit_p _).1 hdg)
          have hten : m = 10 := by have := HA.out; omega
          subst hten
          clear gx gm hdg
          obtain ⟨hA', hB', hbw, hsz⟩ := HK.out
          obtain ⟨⟨a0, a1, a2, a3, a4, a5, a6⟩, f0, f1, f2, f3, f4, f5, f6⟩ := blk7 hA'
          obtain ⟨⟨c0, c1, c2, c3, c4, c5, c6⟩, x0, x1, x2, x3, x4, x5, x6⟩ := blk7 hB'
          go_wp2_with (go_at_call 49; refine (refDigit_any _ _).mono ?_; rintro e w' ⟨rfl, rfl⟩; rw [HDG.out])
          refine bodyPost_ret (v := V) ?_ rfl ?_
          · simp [results, Tryz.results35, go_sem, a0, a1, a2, a3, a4, a5, a6]; exact HV.out.symm
          · refine ⟨rfl, ?_⟩
            repeat (with_reducible refine Below.setCell ?_ (by first | exact Nat.le_refl _ | exact Nat.le_succ _) _)
            exact hbw
      · have hmd : m = 2 + d := by omega
        have HMD := Lib.hid hmd
        have hmr2 : (m : Int) = r.size := by omega
        have hmr3 : ¬ (m : Int) < r.size := by omega
        clear hmd hmr2
        by_cases hm2' : m = 2
        · subst hm2'
          obtain ⟨hA', hB', hbw, hsz⟩ := HK.out
          obtain ⟨⟨a0, a1, a2, a3, a4, a5, a6⟩, f0, f1, f2, f3, f4, f5, f6⟩ := blk7 hA'
          obtain ⟨⟨c0, c1, c2, c3, c4, c5, c6⟩, x0, x1, x2, x3, x4, x5, x6⟩ := blk7 hB'
          go_wp2_with fail
          refine bodyPost_ret (v := V) ?_ rfl ?_
          · simp [results, Tryz.results35, go_sem, a0, a1, a2, a3, a4, a5, a6]; exact HV.out.symm
          · refine ⟨rfl, ?_⟩
            repeat (with_reducible refine Below.setCell ?_ (by first | exact Nat.le_refl _ | exact Nat.le_succ _) _)
            exact hbw
        · have hm3' : (2 : Int) < m := by omega
          by_cases hm9 : m ≤ 9
          · have hm9' : (m : Int) ≤ 9 := by omega
            have hr2 : 2 < r.size := by omega
            obtain ⟨gm, gx⟩ := HR.out.at hr2
            obtain ⟨u, hu⟩ : ∃ u, u = ((r[2].toNat : Int) != 48) := ⟨_, rfl⟩
            obtain ⟨v, hv⟩ : ∃ v, v = decide ((N : Int) ≤ 1000000) := ⟨_, rfl⟩
            obtain ⟨b, hb, hhas⟩ := has_vars (r.extract m r.size) ⟨#[41, 41]⟩
            have hq : r.extract m r.size = s.extract (a + m) s.size := by rw [HR.out.cut (Nat.le_refl _) (by omega)]; congr 1; have := HR.out.size; have := HR.out.le; omega
            have hbad : Hid (¬ (u = true ∧ v = true ∧ b = true)) := Lib.hid (by
              rintro ⟨h1, h2, h3⟩
              have h4 := HMD.out
              have h5 := HN.out
              rw [show m - 2 = d by omega] at h5
              refine HG.out ⟨by omega, by omega, ?_, ?_, ?_⟩
              · rw [hu, bne_iff_ne, gx, ← bAt_lt gm] at h1; exact h1
              · rw [hv, decide_eq_true_eq] at h2; omega
              · rw [hb, hq, show a + m = a + 2 + d by omega] at h3; exact h3)
            have HHAS := Lib.hid hhas
            have u' := hu.symm
            have v' := hv.symm
            clear gm gx hb hq hhas hu hv
            obtain ⟨hA', hB', hbw, hsz⟩ := HK.out
            obtain ⟨⟨a0, a1, a2, a3, a4, a5, a6⟩, f0, f1, f2, f3, f4, f5, f6⟩ := blk7 hA'
            obtain ⟨⟨c0, c1, c2, c3, c4, c5, c6⟩, x0, x1, x2, x3, x4, x5, x6⟩ := blk7 hB'
            go_wp2_with (first | (go_at_call 48; refine (HHAS.out _).mono ?_; rintro e w' ⟨rfl, rfl⟩))
            all_goals first
              | (exfalso; refine hbad.out ⟨?_, ?_, ?_⟩ <;> first | assumption | rfl)
              | (refine bodyPost_ret (v := V) ?_ rfl ?_
                 · simp [results, Tryz.results35, go_sem, a0, a1, a2, a3, a4, a5, a6]; exact HV.out.symm
                 · refine ⟨rfl, ?_⟩
                   repeat (with_reducible refine Below.setCell ?_ (by first | exact Nat.le_refl _ | exact Nat.le_succ _) _)
                   exact hbw)
          · have hm9' : ¬ (m : Int) ≤ 9 := by omega
            obtain ⟨hA', hB', hbw, hsz⟩ := HK.out
            obtain ⟨⟨a0, a1, a2, a3, a4, a5, a6⟩, f0, f1, f2, f3, f4, f5, f6⟩ := blk7 hA'
            obtain ⟨⟨c0, c1, c2, c3, c4, c5, c6⟩, x0, x1, x2, x3, x4, x5, x6⟩ := blk7 hB'
            go_wp2_with fail
            refine bodyPost_ret (v := V) ?_ rfl ?_
            · simp [results, Tryz.results35, go_sem, a0, a1, a2, a3, a4, a5, a6]; exact HV.out.symm
            · refine ⟨rfl, ?_⟩
              repeat (with_reducible refine Below.setCell ?_ (by first | exact Nat.le_refl _ | exact Nat.le_succ _) _)
              exact hbw


set_option maxRecDepth 100000 in
set_option maxHeartbeats 4000000 in
theorem token_ref_yes (s : ByteArray) (a : Nat) (w : World) (hs : s.size ≤ 4000000000) (ha : a < s.size) (k1 : pre s a ⟨#[40, 40]⟩ = true) (d : Nat) (hd : a + 2 + d = runTo cDigit s (a + 2)) (hg : refGood s a d) :
    Calls Tryz.prog 35 #[.string s, .int .i64 a] w (Quiet w (spOf s ⟨3, a, a + d + 4⟩).val) := by
  obtain ⟨V, hV⟩ : ∃ V, V = (spOf s ⟨3, a, a + d + 4⟩).val := ⟨_, rfl⟩
  rw [← hV]
  have HV0 := Lib.hid hV
  clear hV
  have hp := pre_two (s := s) (n := a) (c := 40) (d := 40)
  rw [show ((40 : UInt8).toNat : Int) = 40 from rfl] at hp
  have hz : a + 2 ≤ s.size := pre_le k1 (Nat.le_of_lt ha)
  have h0 : (s[a].toNat : Int) = 40 := by rw [← bAt_lt ha]; exact (hp.1 k1).1
  have p1 : (a : Int) < s.size := by omega
  have p2 : (a : Int) + 1 ≤ s.size := by omega
  go_enter Tryz.func35, Tryz.ntmps35
  go_upto_region 3 with (fail)
  have hR := rest_mk (Nat.le_of_lt ha)
  generalize s.extract a s.size = r at hR ⊢
  have r1 : 0 < r.size := by have := hR.size; omega
  have r2 : (0 : Int) < r.size := by omega
  have r3 : (r.size : Int) ≤ 4000000000 := by have := hR.size; omega
  obtain ⟨g1, g2⟩ := hR.at r1
  simp only [Nat.add_zero] at g2
  have HR := Lib.hid hR
  have e0 : ((r[0].toNat : Int) == 92) = false := by rw [g2, h0]; rfl
  have e1 : ((r[0].toNat : Int) == 96) = false := by rw [g2, h0]; rfl
  have P1 := Lib.hid ((hR.pre ⟨#[91, 91]⟩).trans (pre_not ha (by decide) (fun e => by rw [e] at h0; revert h0; decide)))
  have P2 := Lib.hid ((hR.pre ⟨#[40, 40]⟩).trans k1)
  have r4 : 2 ≤ r.size := by have := hR.size; omega
  have r5 : (2 : Int) ≤ r.size := by omega
  have hrun := runTo_le (cls := cDigit) hz
  rw [← hd] at hrun
  have hrz1 : r.size + a ≤ s.size := by have := hR.size; omega
  have hrz2 : s.size ≤ r.size + a := by have := hR.size; omega
  have hin := fun i h1 h2 => runs_in (p := pDigit) (fun c hc => (cDigit_p c).1 hc) (s := s) (a := a + 2) (i := i) h1 h2
  have hst := run_stop (p := pDigit) (fun c hc => (cDigit_p c).2 hc) (s := s) (a := a + 2)
  rw [← hd] at hin hst
  have HIN := Lib.hid hin
  have HST := Lib.hid hst
  have HD := Lib.hid hd
  have HG := Lib.hid hg
  obtain ⟨j1, j2, j3, j4, j5⟩ := hg
  have ht : r.extract 2 (2 + d) = s.extract (a + 2) (a + 2 + d) := by rw [hR.cut (by omega) (by omega)]; congr 1; omega
  have HV : Hid (V = .agg #[.int .i64 5, .int .i64 a, .int .i64 ((a : Int) + (2 + d : Nat) + 2), .string (r.extract 2 (2 + d)), .string ⟨#[]⟩, .int .i64 (decAt s (a + 2) d), .bool false]) := Lib.hid (by
    have hid : refIdN (s.extract (a + 2) (a + 2 + d)) = decAt s (a + 2) d := by
      rw [decAt_eq (by omega)]
      refine refIdN_yes ?_
      rw [← decAt_eq (by omega), ByteArray.size_extract]
      rintro (h | h | h | h)
      · omega
      · omega
      · rw [bAt_cut (by omega) (by omega)] at h; exact j3 h
      · omega
    rw [HV0.out, ht]
    have e : a + 2 + d = a + d + 4 - 2 := by omega
    rw [e] at hid ⊢
    show (spOf s ⟨3, a, a + d + 4⟩).val = _
    unfold spOf Sp.val
    simp only [hid]
    simp
    omega)
  clear j1 j2 j3 j4 j5 ht
  clear g1 g2 h0 hp k1 HV0 hin hst hd
  go_wp2_with fail
  refine (Tryz.strings_HasPrefix _ _ _).mono ?_
  rintro e w' ⟨rfl, rfl⟩
  rw [P1.out]
  go_wp2_with fail
  refine (Tryz.strings_HasPrefix _ _ _).mono ?_
  rintro e w' ⟨rfl, rfl⟩
  rw [P2.out]
  go_wp2_with fail
  go_loopw [12, 13] (fun k n wr => ∃ m N : Nat, k = .int .i64 m ∧ n = .int .i64 N ∧ Hid (DigRel s r a d m N) ∧ Hid (wr.heap[w.heap.size]? = some (.cells #[.int .i64 0, .int .i64 0, .int .i64 0, .string ⟨#[]⟩, .string ⟨#[]⟩, .int .i64 0, .bool false] 34 (0, 0)) ∧ wr.heap[w.heap.size + 1]? = some (.cells #[.int .i64 1, .int .i64 a, .int .i64 ((a : Int) + 1), .string (s.extract a (a + 1)), .string ⟨#[]⟩, .int .i64 0, .bool false] 34 (0, 0)) ∧ Below w.heap.size w wr ∧ w.heap.size + 1 < wr.heap.size)) (fun k _ _ => r.size - (intOf k).toNat)
  case atStart => exact ⟨2, 0, rfl, rfl, Lib.hid ⟨by omega, by omega, by omega, rfl⟩, Lib.hid (two_new (Below.refl _ _))⟩
  case round =>
    obtain ⟨m, N, rfl, rfl, HM, HK⟩ := hrel
    obtain ⟨m1, m2, m3, m4⟩ := HM.out
    have n1 := HM.out.small HD.out
    have n2 : (N : Int) ≤ 100000000 := by omega
    have n3 : (0 : Int) ≤ N := by omega
    have m5 : (2 : Int) ≤ m := by omega
    have m6 : (m : Int) ≤ r.size := by omega
    have HN := Lib.hid m4
    clear m4 n1
    by_cases hA : m < 2 + d ∧ m < 10
    · obtain ⟨hm1, hm2⟩ := hA
      have hmr : m < r.size := by omega
      obtain ⟨gm, gx⟩ := HR.out.at hmr
      have hdg := HIN.out (a + m) (by omega) (by omega)
      have hnext := HM.out.next HR.out hmr hm2 hm1
      obtain ⟨c, hc⟩ : ∃ c : UInt8, r[m]'hmr = c := ⟨_, rfl⟩
      rw [bAt_lt gm, ← gx, hc] at hdg
      rw [hc] at hnext
      have HDG := Lib.hid ((cDigit_p _).2 hdg)
      obtain ⟨x1, x2⟩ := hdg
      have HNEXT := Lib.hid hnext
      clear hnext
      have q3 : (m : Int) < 10 := by omega
      clear gx gm
      go_wp2_with (go_at_call 49; refine (refDigit_any _ _).mono ?_; rintro e w' ⟨rfl, rfl⟩; rw [HDG.out])
      go_roundw
      case measure => simp [intOf]; omega
      case rel => exact ⟨m + 1, _, by go_num, by congr 1; omega, HNEXT, HK⟩
    · have HA := Lib.hid hA
      clear hA
      by_cases hmr : m < r.size
      · obtain ⟨gm, gx⟩ := HR.out.at hmr
        cases hdg : cDigit r[m]
        · have HDG := Lib.hid hdg
          have hmd : m = 2 + d := by
            refine Nat.le_antisymm m3 (Nat.le_of_not_lt fun hc => ?_)
            have := HIN.out (a + m) (by omega) (by omega)
            rw [bAt_lt gm, ← gx] at this
            rw [(cDigit_p _).2 this] at hdg
            cases hdg
          have HMD := Lib.hid hmd
          clear gx gm hdg hmd
          have hg := HG.out
          have hm9 : (m : Int) ≤ 9 := by have := hg.2.1; have := HMD.out; omega
          have hm2' : (2 : Int) < m := by have := hg.1; have := HMD.out; omega
          have hr2 : 2 < r.size := by omega
          obtain ⟨gm, gx⟩ := HR.out.at hr2
          have u2 : ((r[2].toNat : Int) != 48) = true := by rw [bne_iff_ne, gx, ← bAt_lt gm]; exact hg.2.2.1
          have v1 : (N : Int) ≤ 1000000 := by have := hg.2.2.2.1; have h2 := HN.out; rw [show m - 2 = d by have := HMD.out; omega] at h2; omega
          obtain ⟨b, hb, hhas⟩ := has_vars (r.extract m r.size) ⟨#[41, 41]⟩
          have hq : r.extract m r.size = s.extract (a + m) s.size := by rw [HR.out.cut (Nat.le_refl _) (by omega)]; congr 1; have := HR.out.size; have := HR.out.le; omega
          have hbt : b = true := by rw [hb, hq, show a + m = a + 2 + d by have := HMD.out; omega]; exact hg.2.2.2.2
          subst hbt
          have HHAS := Lib.hid hhas
          have HV2 : Hid (V = .agg #[.int .i64 5, .int .i64 a, .int .i64 ((a : Int) + m + 2), .string (r.extract 2 m), .string ⟨#[]⟩, .int .i64 N, .bool false]) := Lib.hid (by
            have h1 := HMD.out
            have h2 := HN.out
            rw [show m - 2 = d by omega] at h2
            rw [HV.out, h2, h1])
          replace HV := HV2
          clear gm gx hb hq hhas hg
          obtain ⟨hA', hB', hbw, hsz⟩ := HK.out
          obtain ⟨⟨a0, a1, a2, a3, a4, a5, a6⟩, f0, f1, f2, f3, f4, f5, f6⟩ := blk7 hA'
          obtain ⟨⟨c0, c1, c2, c3, c4, c5, c6⟩, x0, x1, x2, x3, x4, x5, x6⟩ := blk7 hB'
          go_wp2_with (first | (go_at_call 49; refine (refDigit_any _ _).mono ?_; rintro e w' ⟨rfl, rfl⟩; rw [HDG.out]) | (go_at_call 48; refine (HHAS.out _).mono ?_; rintro e w' ⟨rfl, rfl⟩))
          refine bodyPost_ret (v := V) ?_ rfl ?_
          · simp [results, Tryz.results35, go_sem, a0, a1, a2, a3, a4, a5, a6]; exact HV.out.symm
          · refine ⟨rfl, ?_⟩
            repeat (with_reducible refine Below.setCell ?_ (by first | exact Nat.le_refl _ | exact Nat.le_succ _) _)
            exact hbw
        · have HDG := Lib.hid hdg
          have hlt : m < 2 + d := by
            refine Nat.lt_of_le_of_ne m3 fun hc => ?_
            have h1 := HST.out (by omega)
            rw [show a + 2 + d = a + m by omega, bAt_lt gm, ← gx] at h1
            exact h1 ((cDigit_p _).1 hdg)
          have hten : m = 10 := by have := HA.out; omega
          subst hten
          clear gx gm hdg
          exfalso
          have := HG.out.2.1
          omega
      · have hmd : m = 2 + d := by omega
        have HMD := Lib.hid hmd
        have hmr2 : (m : Int) = r.size := by omega
        have hmr3 : ¬ (m : Int) < r.size := by omega
        clear hmd hmr2
        have hg := HG.out
        have hm9 : (m : Int) ≤ 9 := by have := hg.2.1; have := HMD.out; omega
        have hm2' : (2 : Int) < m := by have := hg.1; have := HMD.out; omega
        have hr2 : 2 < r.size := by omega
        obtain ⟨gm, gx⟩ := HR.out.at hr2
        have u2 : ((r[2].toNat : Int) != 48) = true := by rw [bne_iff_ne, gx, ← bAt_lt gm]; exact hg.2.2.1
        have v1 : (N : Int) ≤ 1000000 := by have := hg.2.2.2.1; have h2 := HN.out; rw [show m - 2 = d by have := HMD.out; omega] at h2; omega
        obtain ⟨b, hb, hhas⟩ := has_vars (r.extract m r.size) ⟨#[41, 41]⟩
        have hq : r.extract m r.size = s.extract (a + m) s.size := by rw [HR.out.cut (Nat.le_refl _) (by omega)]; congr 1; have := HR.out.size; have := HR.out.le; omega
        have hbt : b = true := by rw [hb, hq, show a + m = a + 2 + d by have := HMD.out; omega]; exact hg.2.2.2.2
        subst hbt
        have HHAS := Lib.hid hhas
        have HV2 : Hid (V = .agg #[.int .i64 5, .int .i64 a, .int .i64 ((a : Int) + m + 2), .string (r.extract 2 m), .string ⟨#[]⟩, .int .i64 N, .bool false]) := Lib.hid (by
          have h1 := HMD.out
          have h2 := HN.out
          rw [show m - 2 = d by omega] at h2
          rw [HV.out, h2, h1])
        replace HV := HV2
        clear gm gx hb hq hhas hg
        obtain ⟨hA', hB', hbw, hsz⟩ := HK.out
        obtain ⟨⟨a0, a1, a2, a3, a4, a5, a6⟩, f0, f1, f2, f3, f4, f5, f6⟩ := blk7 hA'
        obtain ⟨⟨c0, c1, c2, c3, c4, c5, c6⟩, x0, x1, x2, x3, x4, x5, x6⟩ := blk7 hB'
        go_wp2_with (first | (go_at_call 48; refine (HHAS.out _).mono ?_; rintro e w' ⟨rfl, rfl⟩))
        refine bodyPost_ret (v := V) ?_ rfl ?_
        · simp [results, Tryz.results35, go_sem, a0, a1, a2, a3, a4, a5, a6]; exact HV.out.symm
        · refine ⟨rfl, ?_⟩
          repeat (with_reducible refine Below.setCell ?_ (by first | exact Nat.le_refl _ | exact Nat.le_succ _) _)
          exact hbw


end Go.Proofs.YticdapkljbillaaGreatDoor
