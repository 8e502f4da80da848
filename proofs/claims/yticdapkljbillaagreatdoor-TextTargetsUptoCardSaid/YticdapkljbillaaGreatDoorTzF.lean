/- The reference's token where a number sign stands. -/
import Derived.Test.YticdapkljbillaaGreatDoorTzE
import Derived.WalkKit
import Derived.Lib.Hide
import Derived.Outline
import Derived.Deep.DeepCutAuto
import Derived.Deep.CutBlock
import Derived.Deep.QuietTactic
import Derived.BigQuiet
import Derived.Laws.DeepStrings4
namespace Go.Proofs.YticdapkljbillaaGreatDoor
open Go.RowKit

theorem keeps_is {s : ByteArray} {a : Nat} (ha : a < s.size) {L D u1 u2 : Bool} (h1 : L = cLetter (s[a - 1]'(by omega))) (h2 : D = cDigit (s[a - 1]'(by omega))) (h3 : u1 = (((s[a - 1]'(by omega)).toNat : Int) == 35)) (h4 : u2 = (((s[a - 1]'(by omega)).toNat : Int) == 38)) :
    keepsB s a = (decide (0 < a) && (L || D || u1 || u2)) := by
  unfold keepsB
  by_cases h : 0 < a
  · rw [dif_pos ⟨h, by omega⟩]
    unfold cKeeps
    rw [← h1, ← h2, h3, h4, decide_eq_true h, Bool.true_and, Bool.or_assoc (L || D)]
    congr 1
    rw [Bool.eq_iff_iff]
    simp
  · rw [dif_neg (fun e => h e.1), decide_eq_false h, Bool.false_and]
theorem cTag_bits {c : UInt8} {L D u1 u2 u3 : Bool} (h1 : L = cLetter c) (h2 : D = cDigit c) (h3 : u1 = ((c.toNat : Int) == 95)) (h4 : u2 = ((c.toNat : Int) == 45)) (h5 : u3 = ((c.toNat : Int) == 47)) :
    cTag c = (L || D || u1 || u2 || u3) := by
  unfold cTag
  rw [← h1, ← h2, h3, h4, h5]
  cases L <;> cases D <;> (rw [Bool.eq_iff_iff]; simp [or_assoc])
def pTag (c : UInt8) : Prop := cTag c = true
/-- What is known of the loop over the bytes of a tag. -/
structure TgRel (s r : ByteArray) (a d m : Nat) : Prop where
  lo : 1 ≤ m
  dig : m ≤ 1 + d
theorem run_byte {cls : UInt8 → Bool} {s : ByteArray} {a i : Nat} (h1 : a ≤ i) (h2 : i < runTo cls s a) (hi : i < s.size) : cls (s[i]'hi) = true := by
  unfold runTo at h2
  obtain ⟨c, h3, h4⟩ := takeWhile_all cls (s.data.toList.drop a) (i - a) (by omega)
  rw [List.getElem?_drop, show a + (i - a) = i by omega, Lib.data_getElem? s i hi] at h3
  rw [Option.some.inj h3]; exact h4
theorem run_end {cls : UInt8 → Bool} {s : ByteArray} {a : Nat} (hi : runTo cls s a < s.size) : cls (s[runTo cls s a]'hi) = false := by
  have h1 := Lib.data_getElem? s _ hi
  exact takeWhile_stop cls (s.data.toList.drop a) _ (by rw [List.getElem?_drop]; exact h1)
theorem run_all_cut {cls : UInt8 → Bool} {s : ByteArray} {a : Nat} : (s.extract a (runTo cls s a)).data.toList.all cls = true := by
  rw [List.all_eq_true]
  intro c hc
  rw [Lib.extract_data] at hc
  unfold runTo at hc
  have e : ((s.data.toList.drop a).take (a + ((s.data.toList.drop a).takeWhile cls).length - a)) = (s.data.toList.drop a).takeWhile cls := by
    rw [Nat.add_sub_cancel_left]
    exact (List.prefix_iff_eq_take.1 (List.takeWhile_prefix _)).symm
  rw [e] at hc
  exact mem_while _ _ _ hc
set_option maxRecDepth 100000 in
set_option maxHeartbeats 4000000 in
theorem token_tag_keeps (s : ByteArray) (a : Nat) (w : World) (hs : s.size ≤ 4000000000) (ha : a < s.size) (h0 : (s[a].toNat : Int) = 35) (hk : keepsB s a = true) :
    Calls Tryz.prog 35 #[.string s, .int .i64 a] w (Quiet w (oneSp s a).val) := by
  obtain ⟨V, hV⟩ : ∃ V, V = (oneSp s a).val := ⟨_, rfl⟩
  rw [← hV]
  have HV0 := Lib.hid hV
  clear hV
  have p1 : (a : Int) < s.size := by omega
  have p2 : (a : Int) + 1 ≤ s.size := by omega
  go_enter Tryz.func35, Tryz.ntmps35
  go_upto_region 3 with (fail)
  have hR := rest_mk (Nat.le_of_lt ha)
  generalize s.extract a s.size = r at hR ⊢
  have r1 : 0 < r.size := by have := hR.size; omega
  have r2 : (0 : Int) < r.size := by omega
  have r3 : (r.size : Int) ≤ 4000000000 := by have := hR.size; omega
  obtain ⟨g1, g2⟩ := hR.at r1
  simp only [Nat.add_zero] at g2
  have HR := Lib.hid hR
  have e0 : ((r[0].toNat : Int) == 92) = false := by rw [g2, h0]; rfl
  have e1 : ((r[0].toNat : Int) == 96) = false := by rw [g2, h0]; rfl
  have e4 : ((r[0].toNat : Int) == 35) = true := by rw [g2, h0]; rfl
  have P1 := Lib.hid ((hR.pre ⟨#[91, 91]⟩).trans (pre_not ha (by decide) (fun e => by rw [e] at h0; revert h0; decide)))
  have P2 := Lib.hid ((hR.pre ⟨#[40, 40]⟩).trans (pre_not ha (by decide) (fun e => by rw [e] at h0; revert h0; decide)))
  have hrz1 : r.size + a ≤ s.size := by have := hR.size; omega
  have hrz2 : s.size ≤ r.size + a := by have := hR.size; omega
  obtain ⟨L, hL⟩ : ∃ L, L = cLetter (s[a - 1]'(by omega)) := ⟨_, rfl⟩
  obtain ⟨D, hD⟩ : ∃ D, D = cDigit (s[a - 1]'(by omega)) := ⟨_, rfl⟩
  obtain ⟨u1, h1⟩ : ∃ u, u = (((s[a - 1]'(by omega)).toNat : Int) == 35) := ⟨_, rfl⟩
  obtain ⟨u2, h2⟩ : ∃ u, u = (((s[a - 1]'(by omega)).toNat : Int) == 38) := ⟨_, rfl⟩
  obtain ⟨K, hK⟩ : ∃ K, K = keepsB s a := ⟨_, rfl⟩
  have HKB := Lib.hid (hK.trans (keeps_is ha hL hD h1 h2))
  have HL := Lib.hid hL
  have HD := Lib.hid hD
  have y1 := h1.symm
  have y2 := h2.symm
  have z1 : (a : Int) - 1 < s.size := by omega
  have z2 : a - 1 < s.size := by omega
  clear hL hD h1 h2
  rw [← hK] at hk
  clear hK g1 g2 h0
  go_wp2_with fail
  refine (Tryz.strings_HasPrefix _ _ _).mono ?_
  rintro e w' ⟨rfl, rfl⟩
  rw [P1.out]
  go_wp2_with fail
  refine (Tryz.strings_HasPrefix _ _ _).mono ?_
  rintro e w' ⟨rfl, rfl⟩
  rw [P2.out]
  go_upto_region 25 with (fail)
  clear e0 e1 e4
  go_cut [201] (fun v wx => v = .bool K ∧ Hid (wx.heap[w.heap.size]? = some (.cells #[.int .i64 0, .int .i64 0, .int .i64 0, .string ⟨#[]⟩, .string ⟨#[]⟩, .int .i64 0, .bool false] 34 (0, 0)) ∧ wx.heap[w.heap.size + 1]? = some (.cells #[.int .i64 1, .int .i64 a, .int .i64 ((a : Int) + 1), .string (s.extract a (a + 1)), .string ⟨#[]⟩, .int .i64 0, .bool false] 34 (0, 0)) ∧ Below w.heap.size w wx ∧ w.heap.size + 1 < wx.heap.size))
  case first =>
    go_wp2_with (first | (go_at_call 50; refine (refLetter_any _ _).mono ?_; rintro e w' ⟨rfl, rfl⟩; rw [← HL.out]) | (go_at_call 49; refine (refDigit_any _ _).mono ?_; rintro e w' ⟨rfl, rfl⟩; rw [← HD.out]))
    all_goals go_meet
    all_goals refine ⟨?_, Lib.hid (two_new (Below.refl _ _))⟩
    all_goals rw [HKB.out]
    all_goals congr 1
    all_goals simp [*]
  case rest =>
    obtain ⟨rfl, HK⟩ := hcut
    obtain ⟨w2, rfl⟩ : ∃ w2 : World, w2 = wc := ⟨_, rfl⟩
    clear HL HD HKB y1 y2 z1 z2
    subst hk
    have HV : Hid (V = .agg #[.int .i64 1, .int .i64 a, .int .i64 ((a : Int) + 1), .string (s.extract a (a + 1)), .string ⟨#[]⟩, .int .i64 0, .bool false]) := Lib.hid (by rw [HV0.out]; rfl)
    obtain ⟨hA', hB', hbw, hsz⟩ := HK.out
    obtain ⟨⟨a0, a1, a2, a3, a4, a5, a6⟩, f0, f1, f2, f3, f4, f5, f6⟩ := blk7 hA'
    obtain ⟨⟨c0, c1, c2, c3, c4, c5, c6⟩, x0, x1, x2, x3, x4, x5, x6⟩ := blk7 hB'
    go_wp2_with fail
    refine bodyPost_ret (v := V) ?_ rfl ?_
    · simp [results, Tryz.results35, go_sem, a0, a1, a2, a3, a4, a5, a6]; exact HV.out.symm
    · refine ⟨rfl, ?_⟩
      repeat (with_reducible refine Below.setCell ?_ (by first | exact Nat.le_refl _ | exact Nat.le_succ _) _)
      exact hbw

set_option maxRecDepth 100000 in
set_option maxHeartbeats 4000000 in
theorem token_tag_no (s : ByteArray) (a : Nat) (w : World) (hs : s.size ≤ 4000000000) (ha : a < s.size) (h0 : (s[a].toNat : Int) = 35) (hk : keepsB s a = false) (d : Nat) (hd : a + 1 + d = runTo cTag s (a + 1)) (hg : isTagRun (s.extract (a + 1) (a + 1 + d)) = false) :
    Calls Tryz.prog 35 #[.string s, .int .i64 a] w (Quiet w (oneSp s a).val) := by
  obtain ⟨V, hV⟩ : ∃ V, V = (oneSp s a).val := ⟨_, rfl⟩
  rw [← hV]
  have HV0 := Lib.hid hV
  clear hV
  have p1 : (a : Int) < s.size := by omega
  have p2 : (a : Int) + 1 ≤ s.size := by omega
  go_enter Tryz.func35, Tryz.ntmps35
  go_upto_region 3 with (fail)
  have hR := rest_mk (Nat.le_of_lt ha)
  generalize s.extract a s.size = r at hR ⊢
  have r1 : 0 < r.size := by have := hR.size; omega
  have r2 : (0 : Int) < r.size := by omega
  have r3 : (r.size : Int) ≤ 4000000000 := by have := hR.size; omega
  obtain ⟨g1, g2⟩ := hR.at r1
  simp only [Nat.add_zero] at g2
  have HR := Lib.hid hR
  have e0 : ((r[0].toNat : Int) == 92) = false := by rw [g2, h0]; rfl
  have e1 : ((r[0].toNat : Int) == 96) = false := by rw [g2, h0]; rfl
  have e4 : ((r[0].toNat : Int) == 35) = true := by rw [g2, h0]; rfl
  have P1 := Lib.hid ((hR.pre ⟨#[91, 91]⟩).trans (pre_not ha (by decide) (fun e => by rw [e] at h0; revert h0; decide)))
  have P2 := Lib.hid ((hR.pre ⟨#[40, 40]⟩).trans (pre_not ha (by decide) (fun e => by rw [e] at h0; revert h0; decide)))
  have hrz1 : r.size + a ≤ s.size := by have := hR.size; omega
  have hrz2 : s.size ≤ r.size + a := by have := hR.size; omega
  obtain ⟨L, hL⟩ : ∃ L, L = cLetter (s[a - 1]'(by omega)) := ⟨_, rfl⟩
  obtain ⟨D, hD⟩ : ∃ D, D = cDigit (s[a - 1]'(by omega)) := ⟨_, rfl⟩
  obtain ⟨u1, h1⟩ : ∃ u, u = (((s[a - 1]'(by omega)).toNat : Int) == 35) := ⟨_, rfl⟩
  obtain ⟨u2, h2⟩ : ∃ u, u = (((s[a - 1]'(by omega)).toNat : Int) == 38) := ⟨_, rfl⟩
  obtain ⟨K, hK⟩ : ∃ K, K = keepsB s a := ⟨_, rfl⟩
  have HKB := Lib.hid (hK.trans (keeps_is ha hL hD h1 h2))
  have HL := Lib.hid hL
  have HD := Lib.hid hD
  have y1 := h1.symm
  have y2 := h2.symm
  have z1 : (a : Int) - 1 < s.size := by omega
  have z2 : a - 1 < s.size := by omega
  clear hL hD h1 h2
  rw [← hK] at hk
  clear hK g1 g2 h0
  go_wp2_with fail
  refine (Tryz.strings_HasPrefix _ _ _).mono ?_
  rintro e w' ⟨rfl, rfl⟩
  rw [P1.out]
  go_wp2_with fail
  refine (Tryz.strings_HasPrefix _ _ _).mono ?_
  rintro e w' ⟨rfl, rfl⟩
  rw [P2.out]
  go_upto_region 25 with (fail)
  clear e0 e1 e4
  go_cut [201] (fun v wx => v = .bool K ∧ Hid (wx.heap[w.heap.size]? = some (.cells #[.int .i64 0, .int .i64 0, .int .i64 0, .string ⟨#[]⟩, .string ⟨#[]⟩, .int .i64 0, .bool false] 34 (0, 0)) ∧ wx.heap[w.heap.size + 1]? = some (.cells #[.int .i64 1, .int .i64 a, .int .i64 ((a : Int) + 1), .string (s.extract a (a + 1)), .string ⟨#[]⟩, .int .i64 0, .bool false] 34 (0, 0)) ∧ Below w.heap.size w wx ∧ w.heap.size + 1 < wx.heap.size))
  case first =>
    go_wp2_with (first | (go_at_call 50; refine (refLetter_any _ _).mono ?_; rintro e w' ⟨rfl, rfl⟩; rw [← HL.out]) | (go_at_call 49; refine (refDigit_any _ _).mono ?_; rintro e w' ⟨rfl, rfl⟩; rw [← HD.out]))
    all_goals go_meet
    all_goals refine ⟨?_, Lib.hid (two_new (Below.refl _ _))⟩
    all_goals rw [HKB.out]
    all_goals congr 1
    all_goals simp [*]
  case rest =>
    obtain ⟨rfl, HK⟩ := hcut
    obtain ⟨w2, rfl⟩ : ∃ w2 : World, w2 = wc := ⟨_, rfl⟩
    clear HL HD HKB y1 y2 z1 z2
    subst hk
    have hrun := runTo_le (cls := cTag) (s := s) (a := a + 1) (by omega)
    rw [← hd] at hrun
    obtain ⟨T, hT, htag⟩ : ∃ T, T = refTag (r.extract 1 (1 + d)) ∧ ∀ w, Calls Tryz.prog 51 #[.string (r.extract 1 (1 + d))] w fun e w' => e = .returned (.bool T) ∧ w' = w := ⟨_, rfl, fun w => refIsTag_any _ w (by rw [ByteArray.size_extract]; omega)⟩
    have ht : r.extract 1 (1 + d) = s.extract (a + 1) (a + 1 + d) := by rw [HR.out.cut (by omega) (by omega)]; congr 1; omega
    have hTt : T = isTagRun (s.extract (a + 1) (a + 1 + d)) := by rw [hT, ht, refTag_run]; rw [hd]; exact run_all_cut
    rw [hg] at hTt
    have HTAG := Lib.hid htag
    have HDD := Lib.hid hd
    clear htag hT
    have HV : Hid (V = .agg #[.int .i64 1, .int .i64 a, .int .i64 ((a : Int) + 1), .string (s.extract a (a + 1)), .string ⟨#[]⟩, .int .i64 0, .bool false]) := Lib.hid (by rw [HV0.out]; rfl)
    clear ht
    subst hTt
    clear hg hd HV0
    go_wp2_with fail
    go_loopw [14] (fun k wr => ∃ m : Nat, k = .int .i64 m ∧ Hid (TgRel s r a d m) ∧ Hid (wr.heap[w.heap.size]? = some (.cells #[.int .i64 0, .int .i64 0, .int .i64 0, .string ⟨#[]⟩, .string ⟨#[]⟩, .int .i64 0, .bool false] 34 (0, 0)) ∧ wr.heap[w.heap.size + 1]? = some (.cells #[.int .i64 1, .int .i64 a, .int .i64 ((a : Int) + 1), .string (s.extract a (a + 1)), .string ⟨#[]⟩, .int .i64 0, .bool false] 34 (0, 0)) ∧ Below w.heap.size w wr ∧ w.heap.size + 1 < wr.heap.size)) (fun k _ => r.size - (intOf k).toNat)
    case atStart => exact ⟨1, rfl, Lib.hid ⟨by omega, by omega⟩, HK⟩
    case round =>
      clear HK
      obtain ⟨m, rfl, HM, HK⟩ := hrel
      obtain ⟨m1, m3⟩ := HM.out
      have m5 : (1 : Int) ≤ m := by omega
      have m6 : (m : Int) ≤ r.size := by omega
      by_cases hmr : m < r.size
      · obtain ⟨gm, gx⟩ := HR.out.at hmr
        obtain ⟨c, hc⟩ : ∃ c : UInt8, r[m]'hmr = c := ⟨_, rfl⟩
        rw [hc] at gx
        obtain ⟨L, hL⟩ : ∃ L, L = cLetter c := ⟨_, rfl⟩
        obtain ⟨D, hD⟩ : ∃ D, D = cDigit c := ⟨_, rfl⟩
        obtain ⟨u1, h1⟩ : ∃ u, u = ((c.toNat : Int) == 95) := ⟨_, rfl⟩
        obtain ⟨u2, h2⟩ : ∃ u, u = ((c.toNat : Int) == 45) := ⟨_, rfl⟩
        obtain ⟨u3, h3⟩ : ∃ u, u = ((c.toNat : Int) == 47) := ⟨_, rfl⟩
        have hbits := cTag_bits hL hD h1 h2 h3
        have HL := Lib.hid hL
        have HD := Lib.hid hD
        have y1 := h1.symm
        have y2 := h2.symm
        have y3 := h3.symm
        by_cases hlt : m < 1 + d
        · have hct : cTag c = true := by rw [gx]; exact run_byte (cls := cTag) (a := a + 1) (by omega) (by rw [← HDD.out]; omega) gm
          rw [hbits] at hct
          have HBITS := Lib.hid hct
          clear hL hD h1 h2 h3 hbits hct gx gm
          go_wp2_with (first | (go_at_call 50; refine (refLetter_any _ _).mono ?_; rintro e w' ⟨rfl, rfl⟩; rw [← HL.out]) | (go_at_call 49; refine (refDigit_any _ _).mono ?_; rintro e w' ⟨rfl, rfl⟩; rw [← HD.out]))
          all_goals first
            | (go_roundw
               case measure => simp [intOf]; omega
               case rel => exact ⟨m + 1, by go_num, Lib.hid ⟨by omega, by omega⟩, HK⟩)
            | (exfalso; have := HBITS.out; simp_all; done)
        · have hmd : m = 1 + d := by omega
          have hct : cTag c = false := by
            have h5 := run_end (cls := cTag) (s := s) (a := a + 1) (by rw [← HDD.out]; omega)
            have e : runTo cTag s (a + 1) = a + m := by rw [← HDD.out]; omega
            simp only [e] at h5
            rw [gx]; exact h5
          rw [hbits] at hct
          obtain ⟨hct, b3⟩ := Bool.or_eq_false_iff.1 hct
          obtain ⟨hct, b2⟩ := Bool.or_eq_false_iff.1 hct
          obtain ⟨hct, b1⟩ := Bool.or_eq_false_iff.1 hct
          obtain ⟨bl, bd⟩ := Bool.or_eq_false_iff.1 hct
          have HMD := Lib.hid hmd
          clear hL hD h1 h2 h3 hbits hct gx gm hmd
          subst b1 b2 b3 bl bd
          by_cases hm2 : m = 1
          · subst hm2
            obtain ⟨hA', hB', hbw, hsz⟩ := HK.out
            obtain ⟨⟨a0, a1, a2, a3, a4, a5, a6⟩, f0, f1, f2, f3, f4, f5, f6⟩ := blk7 hA'
            obtain ⟨⟨c0, c1, c2, c3, c4, c5, c6⟩, x0, x1, x2, x3, x4, x5, x6⟩ := blk7 hB'
            go_wp2_with (first | (go_at_call 50; refine (refLetter_any _ _).mono ?_; rintro e w' ⟨rfl, rfl⟩; rw [← HL.out]) | (go_at_call 49; refine (refDigit_any _ _).mono ?_; rintro e w' ⟨rfl, rfl⟩; rw [← HD.out]))
            refine bodyPost_ret (v := V) ?_ rfl ?_
            · simp [results, Tryz.results35, go_sem, a0, a1, a2, a3, a4, a5, a6]; exact HV.out.symm
            · refine ⟨rfl, ?_⟩
              repeat (with_reducible refine Below.setCell ?_ (by first | exact Nat.le_refl _ | exact Nat.le_succ _) _)
              exact hbw
          · have hm3 : (1 : Int) < m := by omega
            have HT2 : Hid (∀ w, Calls Tryz.prog 51 #[.string (r.extract 1 m)] w fun e w' => e = .returned (.bool false) ∧ w' = w) := Lib.hid (by have h1 := HMD.out; rw [h1]; exact HTAG.out)
            obtain ⟨hA', hB', hbw, hsz⟩ := HK.out
            obtain ⟨⟨a0, a1, a2, a3, a4, a5, a6⟩, f0, f1, f2, f3, f4, f5, f6⟩ := blk7 hA'
            obtain ⟨⟨c0, c1, c2, c3, c4, c5, c6⟩, x0, x1, x2, x3, x4, x5, x6⟩ := blk7 hB'
            go_wp2_with (first | (go_at_call 50; refine (refLetter_any _ _).mono ?_; rintro e w' ⟨rfl, rfl⟩; rw [← HL.out]) | (go_at_call 49; refine (refDigit_any _ _).mono ?_; rintro e w' ⟨rfl, rfl⟩; rw [← HD.out]) | (go_at_call 51; refine (HT2.out _).mono ?_; rintro e w' ⟨rfl, rfl⟩))
            refine bodyPost_ret (v := V) ?_ rfl ?_
            · simp [results, Tryz.results35, go_sem, a0, a1, a2, a3, a4, a5, a6]; exact HV.out.symm
            · refine ⟨rfl, ?_⟩
              repeat (with_reducible refine Below.setCell ?_ (by first | exact Nat.le_refl _ | exact Nat.le_succ _) _)
              exact hbw
      · have hmd : m = 1 + d := by omega
        have hmr3 : ¬ (m : Int) < r.size := by omega
        have HMD := Lib.hid hmd
        clear hmd
        by_cases hm2 : m = 1
        · subst hm2
          obtain ⟨hA', hB', hbw, hsz⟩ := HK.out
          obtain ⟨⟨a0, a1, a2, a3, a4, a5, a6⟩, f0, f1, f2, f3, f4, f5, f6⟩ := blk7 hA'
          obtain ⟨⟨c0, c1, c2, c3, c4, c5, c6⟩, x0, x1, x2, x3, x4, x5, x6⟩ := blk7 hB'
          go_wp2_with fail
          refine bodyPost_ret (v := V) ?_ rfl ?_
          · simp [results, Tryz.results35, go_sem, a0, a1, a2, a3, a4, a5, a6]; exact HV.out.symm
          · refine ⟨rfl, ?_⟩
            repeat (with_reducible refine Below.setCell ?_ (by first | exact Nat.le_refl _ | exact Nat.le_succ _) _)
            exact hbw
        · have hm3 : (1 : Int) < m := by omega
          have HT2 : Hid (∀ w, Calls Tryz.prog 51 #[.string (r.extract 1 m)] w fun e w' => e = .returned (.bool false) ∧ w' = w) := Lib.hid (by have h1 := HMD.out; rw [h1]; exact HTAG.out)
          obtain ⟨hA', hB', hbw, hsz⟩ := HK.out
          obtain ⟨⟨a0, a1, a2, a3, a4, a5, a6⟩, f0, f1, f2, f3, f4, f5, f6⟩ := blk7 hA'
          obtain ⟨⟨c0, c1, c2, c3, c4, c5, c6⟩, x0, x1, x2, x3, x4, x5, x6⟩ := blk7 hB'
          go_wp2_with (first | (go_at_call 51; refine (HT2.out _).mono ?_; rintro e w' ⟨rfl, rfl⟩))
          refine bodyPost_ret (v := V) ?_ rfl ?_
          · simp [results, Tryz.results35, go_sem, a0, a1, a2, a3, a4, a5, a6]; exact HV.out.symm
          · refine ⟨rfl, ?_⟩
            repeat (with_reducible refine Below.setCell ?_ (by first | exact Nat.le_refl _ | exact Nat.le_succ _) _)
            exact hbw

set_option maxRecDepth 100000 in
set_option maxHeartbeats 4000000 in
theorem token_tag_yes (s : ByteArray) (a : Nat) (w : World) (hs : s.size ≤ 4000000000) (ha : a < s.size) (h0 : (s[a].toNat : Int) = 35) (hk : keepsB s a = false) (d : Nat) (hd : a + 1 + d = runTo cTag s (a + 1)) (hg : isTagRun (s.extract (a + 1) (a + 1 + d)) = true) :
    Calls Tryz.prog 35 #[.string s, .int .i64 a] w (Quiet w (spOf s ⟨4, a, a + d + 1⟩).val) := by
  obtain ⟨V, hV⟩ : ∃ V, V = (spOf s ⟨4, a, a + d + 1⟩).val := ⟨_, rfl⟩
  rw [← hV]
  have HV0 := Lib.hid hV
  clear hV
  have p1 : (a : Int) < s.size := by omega
  have p2 : (a : Int) + 1 ≤ s.size := by omega
  go_enter Tryz.func35, Tryz.ntmps35
  go_upto_region 3 with (fail)
  have hR := rest_mk (Nat.le_of_lt ha)
  generalize s.extract a s.size = r at hR ⊢
  have r1 : 0 < r.size := by have := hR.size; omega
  have r2 : (0 : Int) < r.size := by omega
  have r3 : (r.size : Int) ≤ 4000000000 := by have := hR.size; omega
  obtain ⟨g1, g2⟩ := hR.at r1
  simp only [Nat.add_zero] at g2
  have HR := Lib.hid hR
  have e0 : ((r[0].toNat : Int) == 92) = false := by rw [g2, h0]; rfl
  have e1 : ((r[0].toNat : Int) == 96) = false := by rw [g2, h0]; rfl
  have e4 : ((r[0].toNat : Int) == 35) = true := by rw [g2, h0]; rfl
  have P1 := Lib.hid ((hR.pre ⟨#[91, 91]⟩).trans (pre_not ha (by decide) (fun e => by rw [e] at h0; revert h0; decide)))
  have P2 := Lib.hid ((hR.pre ⟨#[40, 40]⟩).trans (pre_not ha (by decide) (fun e => by rw [e] at h0; revert h0; decide)))
  have hrz1 : r.size + a ≤ s.size := by have := hR.size; omega
  have hrz2 : s.size ≤ r.size + a := by have := hR.size; omega
  obtain ⟨L, hL⟩ : ∃ L, L = cLetter (s[a - 1]'(by omega)) := ⟨_, rfl⟩
  obtain ⟨D, hD⟩ : ∃ D, D = cDigit (s[a - 1]'(by omega)) := ⟨_, rfl⟩
  obtain ⟨u1, h1⟩ : ∃ u, u = (((s[a - 1]'(by omega)).toNat : Int) == 35) := ⟨_, rfl⟩
  obtain ⟨u2, h2⟩ : ∃ u, u = (((s[a - 1]'(by omega)).toNat : Int) == 38) := ⟨_, rfl⟩
  obtain ⟨K, hK⟩ : ∃ K, K = keepsB s a := ⟨_, rfl⟩
  have HKB := Lib.hid (hK.trans (keeps_is ha hL hD h1 h2))
  have HL := Lib.hid hL
  have HD := Lib.hid hD
  have y1 := h1.symm
  have y2 := h2.symm
  have z1 : (a : Int) - 1 < s.size := by omega
  have z2 : a - 1 < s.size := by omega
  clear hL hD h1 h2
  rw [← hK] at hk
  clear hK g1 g2 h0
  go_wp2_with fail
  refine (Tryz.strings_HasPrefix _ _ _).mono ?_
  rintro e w' ⟨rfl, rfl⟩
  rw [P1.out]
  go_wp2_with fail
  refine (Tryz.strings_HasPrefix _ _ _).mono ?_
  rintro e w' ⟨rfl, rfl⟩
  rw [P2.out]
  go_upto_region 25 with (fail)
  clear e0 e1 e4
  go_cut [201] (fun v wx => v = .bool K ∧ Hid (wx.heap[w.heap.size]? = some (.cells #[.int .i64 0, .int .i64 0, .int .i64 0, .string ⟨#[]⟩, .string ⟨#[]⟩, .int .i64 0, .bool false] 34 (0, 0)) ∧ wx.heap[w.heap.size + 1]? = some (.cells #[.int .i64 1, .int .i64 a, .int .i64 ((a : Int) + 1), .string (s.extract a (a + 1)), .string ⟨#[]⟩, .int .i64 0, .bool false] 34 (0, 0)) ∧ Below w.heap.size w wx ∧ w.heap.size + 1 < wx.heap.size))
  case first =>
    go_wp2_with (first | (go_at_call 50; refine (refLetter_any _ _).mono ?_; rintro e w' ⟨rfl, rfl⟩; rw [← HL.out]) | (go_at_call 49; refine (refDigit_any _ _).mono ?_; rintro e w' ⟨rfl, rfl⟩; rw [← HD.out]))
    all_goals go_meet
    all_goals refine ⟨?_, Lib.hid (two_new (Below.refl _ _))⟩
    all_goals rw [HKB.out]
    all_goals congr 1
    all_goals simp [*]
  case rest =>
    obtain ⟨rfl, HK⟩ := hcut
    obtain ⟨w2, rfl⟩ : ∃ w2 : World, w2 = wc := ⟨_, rfl⟩
    clear HL HD HKB y1 y2 z1 z2
    subst hk
    have hrun := runTo_le (cls := cTag) (s := s) (a := a + 1) (by omega)
    rw [← hd] at hrun
    obtain ⟨T, hT, htag⟩ : ∃ T, T = refTag (r.extract 1 (1 + d)) ∧ ∀ w, Calls Tryz.prog 51 #[.string (r.extract 1 (1 + d))] w fun e w' => e = .returned (.bool T) ∧ w' = w := ⟨_, rfl, fun w => refIsTag_any _ w (by rw [ByteArray.size_extract]; omega)⟩
    have ht : r.extract 1 (1 + d) = s.extract (a + 1) (a + 1 + d) := by rw [HR.out.cut (by omega) (by omega)]; congr 1; omega
    have hTt : T = isTagRun (s.extract (a + 1) (a + 1 + d)) := by rw [hT, ht, refTag_run]; rw [hd]; exact run_all_cut
    rw [hg] at hTt
    have HTAG := Lib.hid htag
    have HDD := Lib.hid hd
    clear htag hT
    have hd1 : 1 ≤ d := by
      unfold isTagRun at hg
      rw [decide_eq_true_eq, ByteArray.size_extract] at hg
      omega
    have HV : Hid (V = .agg #[.int .i64 6, .int .i64 a, .int .i64 ((a : Int) + (1 + d : Nat)), .string (r.extract 1 (1 + d)), .string ⟨#[]⟩, .int .i64 0, .bool false]) := Lib.hid (by
      rw [HV0.out, ht]
      have e : a + 1 + d = a + d + 1 := by omega
      rw [e]
      show (spOf s ⟨4, a, a + d + 1⟩).val = _
      unfold spOf Sp.val
      simp
      omega)
    clear ht
    subst hTt
    clear hg hd HV0
    go_wp2_with fail
    go_loopw [14] (fun k wr => ∃ m : Nat, k = .int .i64 m ∧ Hid (TgRel s r a d m) ∧ Hid (wr.heap[w.heap.size]? = some (.cells #[.int .i64 0, .int .i64 0, .int .i64 0, .string ⟨#[]⟩, .string ⟨#[]⟩, .int .i64 0, .bool false] 34 (0, 0)) ∧ wr.heap[w.heap.size + 1]? = some (.cells #[.int .i64 1, .int .i64 a, .int .i64 ((a : Int) + 1), .string (s.extract a (a + 1)), .string ⟨#[]⟩, .int .i64 0, .bool false] 34 (0, 0)) ∧ Below w.heap.size w wr ∧ w.heap.size + 1 < wr.heap.size)) (fun k _ => r.size - (intOf k).toNat)
    case atStart => exact ⟨1, rfl, Lib.hid ⟨by omega, by omega⟩, HK⟩
    case round =>
      clear HK
      obtain ⟨m, rfl, HM, HK⟩ := hrel
      obtain ⟨m1, m3⟩ := HM.out
      have m5 : (1 : Int) ≤ m := by omega
      have m6 : (m : Int) ≤ r.size := by omega
      by_cases hmr : m < r.size
      · obtain ⟨gm, gx⟩ := HR.out.at hmr
        obtain ⟨c, hc⟩ : ∃ c : UInt8, r[m]'hmr = c := ⟨_, rfl⟩
        rw [hc] at gx
        obtain ⟨L, hL⟩ : ∃ L, L = cLetter c := ⟨_, rfl⟩
        obtain ⟨D, hD⟩ : ∃ D, D = cDigit c := ⟨_, rfl⟩
        obtain ⟨u1, h1⟩ : ∃ u, u = ((c.toNat : Int) == 95) := ⟨_, rfl⟩
        obtain ⟨u2, h2⟩ : ∃ u, u = ((c.toNat : Int) == 45) := ⟨_, rfl⟩
        obtain ⟨u3, h3⟩ : ∃ u, u = ((c.toNat : Int) == 47) := ⟨_, rfl⟩
        have hbits := cTag_bits hL hD h1 h2 h3
        have HL := Lib.hid hL
        have HD := Lib.hid hD
        have y1 := h1.symm
        have y2 := h2.symm
        have y3 := h3.symm
        by_cases hlt : m < 1 + d
        · have hct : cTag c = true := by rw [gx]; exact run_byte (cls := cTag) (a := a + 1) (by omega) (by rw [← HDD.out]; omega) gm
          rw [hbits] at hct
          have HBITS := Lib.hid hct
          clear hL hD h1 h2 h3 hbits hct gx gm
          go_wp2_with (first | (go_at_call 50; refine (refLetter_any _ _).mono ?_; rintro e w' ⟨rfl, rfl⟩; rw [← HL.out]) | (go_at_call 49; refine (refDigit_any _ _).mono ?_; rintro e w' ⟨rfl, rfl⟩; rw [← HD.out]))
          all_goals first
            | (go_roundw
               case measure => simp [intOf]; omega
               case rel => exact ⟨m + 1, by go_num, Lib.hid ⟨by omega, by omega⟩, HK⟩)
            | (exfalso; have := HBITS.out; simp_all; done)
        · have hmd : m = 1 + d := by omega
          have hct : cTag c = false := by
            have h5 := run_end (cls := cTag) (s := s) (a := a + 1) (by rw [← HDD.out]; omega)
            have e : runTo cTag s (a + 1) = a + m := by rw [← HDD.out]; omega
            simp only [e] at h5
            rw [gx]; exact h5
          rw [hbits] at hct
          obtain ⟨hct, b3⟩ := Bool.or_eq_false_iff.1 hct
          obtain ⟨hct, b2⟩ := Bool.or_eq_false_iff.1 hct
          obtain ⟨hct, b1⟩ := Bool.or_eq_false_iff.1 hct
          obtain ⟨bl, bd⟩ := Bool.or_eq_false_iff.1 hct
          have HMD := Lib.hid hmd
          clear hL hD h1 h2 h3 hbits hct gx gm hmd
          subst b1 b2 b3 bl bd
          have hm2 : (1 : Int) < m := by have := HMD.out; omega
          have HT2 : Hid (∀ w, Calls Tryz.prog 51 #[.string (r.extract 1 m)] w fun e w' => e = .returned (.bool true) ∧ w' = w) := Lib.hid (by have h1 := HMD.out; rw [h1]; exact HTAG.out)
          have HV2 : Hid (V = .agg #[.int .i64 6, .int .i64 a, .int .i64 ((a : Int) + m), .string (r.extract 1 m), .string ⟨#[]⟩, .int .i64 0, .bool false]) := Lib.hid (by have h1 := HMD.out; rw [HV.out, h1])
          replace HV := HV2
          obtain ⟨hA', hB', hbw, hsz⟩ := HK.out
          obtain ⟨⟨a0, a1, a2, a3, a4, a5, a6⟩, f0, f1, f2, f3, f4, f5, f6⟩ := blk7 hA'
          obtain ⟨⟨c0, c1, c2, c3, c4, c5, c6⟩, x0, x1, x2, x3, x4, x5, x6⟩ := blk7 hB'
          go_wp2_with (first | (go_at_call 50; refine (refLetter_any _ _).mono ?_; rintro e w' ⟨rfl, rfl⟩; rw [← HL.out]) | (go_at_call 49; refine (refDigit_any _ _).mono ?_; rintro e w' ⟨rfl, rfl⟩; rw [← HD.out]) | (go_at_call 51; refine (HT2.out _).mono ?_; rintro e w' ⟨rfl, rfl⟩))
          refine bodyPost_ret (v := V) ?_ rfl ?_
          · simp [results, Tryz.results35, go_sem, a0, a1, a2, a3, a4, a5, a6]; exact HV.out.symm
          · refine ⟨rfl, ?_⟩
            repeat (with_reducible refine Below.setCell ?_ (by first | exact Nat.le_refl _ | exact Nat.le_succ _) _)
            exact hbw
      · have hmd : m = 1 + d := by omega
        have hmr3 : ¬ (m : Int) < r.size := by omega
        have HMD := Lib.hid hmd
        clear hmd
        have hm2 : (1 : Int) < m := by have := HMD.out; omega
        have HT2 : Hid (∀ w, Calls Tryz.prog 51 #[.string (r.extract 1 m)] w fun e w' => e = .returned (.bool true) ∧ w' = w) := Lib.hid (by have h1 := HMD.out; rw [h1]; exact HTAG.out)
        have HV2 : Hid (V = .agg #[.int .i64 6, .int .i64 a, .int .i64 ((a : Int) + m), .string (r.extract 1 m), .string ⟨#[]⟩, .int .i64 0, .bool false]) := Lib.hid (by have h1 := HMD.out; rw [HV.out, h1])
        replace HV := HV2
        obtain ⟨hA', hB', hbw, hsz⟩ := HK.out
        obtain ⟨⟨a0, a1, a2, a3, a4, a5, a6⟩, f0, f1, f2, f3, f4, f5, f6⟩ := blk7 hA'
        obtain ⟨⟨c0, c1, c2, c3, c4, c5, c6⟩, x0, x1, x2, x3, x4, x5, x6⟩ := blk7 hB'
        go_wp2_with (first | (go_at_call 51; refine (HT2.out _).mono ?_; rintro e w' ⟨rfl, rfl⟩))
        refine bodyPost_ret (v := V) ?_ rfl ?_
        · simp [results, Tryz.results35, go_sem, a0, a1, a2, a3, a4, a5, a6]; exact HV.out.symm
        · refine ⟨rfl, ?_⟩
          repeat (with_reducible refine Below.setCell ?_ (by first | exact Nat.le_refl _ | exact Nat.le_succ _) _)
          exact hbw

end Go.Proofs.YticdapkljbillaaGreatDoor
