/- Outlines: the reference's OutlineRead. -/
import Derived.Test.YticdapkljbillaaDoorOlE
import Derived.WalkKit
import Derived.Lib.Hide
import Derived.Outline
import Derived.Below
import Derived.Deep.DeepCutAuto
import Derived.Deep.CutBlock
import Derived.Deep.LoopGhost
import Derived.Deep.QuietTactic
import Derived.BigQuiet
import Derived.BigRegion
import Derived.Lib.SmallJoins
namespace Go.Proofs.YticdapkljbillaaDoor
open Go.RowKit Go.Shelf

/-- At the head of each round. -/
structure ERow (s : ByteArray) (w1 : World) (j d : Nat) (v : Value) (wx : World) : Prop where
  at_ : LnAt (linesL s.data.toList).1 j d
  dl : d ≤ 400001
  own : wx.ownsRow w1.heap.size 28 2 v j ((preLn s j).flatMap Ln.cells)
  bel : Below w1.heap.size w1 wx
/-- A row in which the texts are asked. -/
structure FRow (s : ByteArray) (w1 : World) (v : Value) (k : Nat) (wx : World) : Prop where
  le : k ≤ nLn s
  bad : firstBad (lnsOf s) = firstBad ((lnsOf s).drop k)
  own : wx.ownsRow w1.heap.size 28 2 v (nLn s) ((lnsOf s).flatMap Ln.cells)
  bel : Below w1.heap.size w1 wx
theorem own_base {w : World} {base base' n size : Nat} {e : TypeId} {v : Value} {xs : List Value} (h : w.ownsRow base e size v n xs) (hb : base' ≤ base) : w.ownsRow base' e size v n xs := by
  refine ⟨h.1, ?_⟩
  rcases h.2 with h0 | ⟨g, cap, cur, e1, hg, r⟩
  · exact .inl h0
  · exact .inr ⟨g, cap, cur, e1, Nat.le_trans hb hg, r⟩
/-- A line, taken apart as the reference does. -/
structure Cutted (a T X : ByteArray) (has : Bool) (sp : Nat) : Prop where
  trim : ∀ W, Calls Tryd.prog 17 #[.string a, .string ⟨#[32]⟩] W fun e w' => e = .returned (.string T) ∧ w' = W
  pref : ∀ W, Calls Tryd.prog 18 #[.string T, .string ⟨#[45, 32]⟩] W fun e w' => e = .returned (.tuple #[.string X, .bool has]) ∧ w' = W
  le : T.size ≤ a.size
  sp_ : (a.size : Int) - T.size = sp
  ok : lineOk a.data.toList = (has && decide (sp % 2 = 0))
  ln : lnOf a.data.toList = ⟨sp / 2, X⟩
theorem cutted (a : ByteArray) : ∃ T X has sp, Cutted a T X has sp := by
  have hl : (⟨(Lib.trimLeftB a.data.toList 32).toArray⟩ : ByteArray).data.toList = Lib.trimLeftB a.data.toList 32 := rfl
  have hTs : (⟨(Lib.trimLeftB a.data.toList 32).toArray⟩ : ByteArray).size = (Lib.trimLeftB a.data.toList 32).length := by rw [sizeL]
  have hle := trim_len a.data.toList
  have hsz := sizeL a
  refine ⟨⟨(Lib.trimLeftB a.data.toList 32).toArray⟩, ⟨(Lib.trimPrefix (Lib.trimLeftB a.data.toList 32) [45, 32]).toArray⟩, Lib.hasPrefix (Lib.trimLeftB a.data.toList 32) [45, 32], spL a.data.toList, ⟨?_, ?_, by omega, ?_, rfl, rfl⟩⟩
  · exact fun W => Tryd.strings_TrimLeft_one a 32 (by decide) W
  · exact fun W => Tryd.strings_CutPrefix ⟨(Lib.trimLeftB a.data.toList 32).toArray⟩ ⟨#[45, 32]⟩ W
  · unfold spL; omega

set_option maxRecDepth 100000 in
set_option maxHeartbeats 8000000 in
theorem outlineRead_any (s : ByteArray) (w : World) (hs : s.size ≤ 9223372036854775807) : Calls Tryd.prog 6 #[.string s] w (GivesLns s w) := by
  by_cases hbig : 400000 < s.size
  · have H := Lib.hid (gives_none (w := w) (out_large hbig) (Below.refl _ _))
    have p1 : (400000 : Int) < s.size := by omega
    clear hbig
    go_enter Tryd.func6, Tryd.ntmps6
    go_wp2
    go_ret2
    exact H.out
  · have p1 : ¬ (400000 : Int) < s.size := by omega
    have hs4 : s.size ≤ 400000 := by omega
    obtain ⟨i0, hi, hz0, hz1, hz2⟩ := info_parts infoLn
    go_enter Tryd.func6, Tryd.ntmps6
    go_wp2_with fail
    refine (linesOf_any s _ hs4).mono ?_
    rintro e1 w1 (⟨sv, rfl, hfin, hrow, hb1⟩ | ⟨rfl, hsyn, hb1⟩)
    · obtain ⟨A, c, rfl, hA⟩ := own_slice hrow
      have HROW := Lib.hid hrow
      have HB1 := Lib.hid hb1
      have HFIN := Lib.hid hfin
      have hnl := nLn_le s
      obtain ⟨nl, hn⟩ : ∃ nl, nl = nLn s := ⟨_, rfl⟩
      have HA := Lib.hid hA
      rw [← hn] at HA hnl HROW ⊢
      have HN := Lib.hid hn
      have hnl2 : (nl : Int) ≤ 400000 := by omega
      have hE : ERow s w1 0 0 (.slice none 0 0) w1 := ⟨LnAt.zero _, by omega, World.ownsRow_nil _ _ _ _, Below.refl _ _⟩
      have HE := Lib.hid hE
      clear hrow hb1 hfin hA hn hE
      go_wp2_with fail
      go_loopw [6, 7, 29] (fun lv dv iv wx => ∃ (j d : Nat), iv = .int .i64 j ∧ dv = .int .i64 ((d : Int) - 1) ∧ Hid (ERow s w1 j d lv wx)) (fun _ _ iv _ => nl - (intOf iv).toNat)
      case atStart => exact ⟨0, 0, rfl, rfl, HE⟩
      case round =>
        obtain ⟨j, d, rfl, rfl, HR⟩ := hrel
        have hjl : j ≤ nl := by have := HR.out.at_.le; rw [HN.out]; exact this
        by_cases hj : j < nl
        · have hjn : j < nLn s := by rw [← HN.out]; exact hj
          obtain ⟨g, rfl, -, -⟩ := HA.out (by omega)
          obtain ⟨a, ha1, ha2, ha3⟩ := lineSs_at hjn
          have hcell : wr.cell? ⟨g, j, none⟩ = some (.string a) := by
            have h1 := HROW.out.cellAt j (by omega)
            unfold strs at h1
            rw [List.getElem?_map, ha1] at h1
            exact (HR.out.bel.cell (p := ⟨g, j, none⟩) (HROW.out.lt g rfl).2).trans h1
          obtain ⟨T, X, has, sp, hcut⟩ := cutted a
          have hle := hcut.le
          have hsp := hcut.sp_
          have p2 : (j : Int) < nl := by omega
          have hle2 : (T.size : Int) ≤ a.size := by omega
          have hln : lnOf ((linesL s.data.toList).1[j]'hjn) = ⟨sp / 2, X⟩ := by rw [← ha2]; exact hcut.ln
          have hok : lineOk ((linesL s.data.toList).1[j]'hjn) = (has && decide (sp % 2 = 0)) := by rw [← ha2]; exact hcut.ok
          have hdq : ((a.size : Int) - T.size) / 2 = ((sp / 2 : Nat) : Int) := by omega
          have hspb : sp ≤ 400000 := by omega
          obtain ⟨D, hD⟩ : ∃ D, D = sp / 2 := ⟨_, rfl⟩
          rw [← hD] at hln
          have hD2 : (sp : Int) / 2 = D := by omega
          have hDb : D ≤ 400000 := by omega
          have hdb := HR.out.dl
          have HCUT := Lib.hid hcut
          have HLN := Lib.hid hln
          have HOK := Lib.hid hok
          have HDD := Lib.hid hD
          have HOWN := Lib.hid HR.out.own
          have HBEL := Lib.hid HR.out.bel
          have HATJ := Lib.hid HR.out.at_
          clear ha1 ha2 hcut hln hok hdq hD HR
          cases has with
          | false =>
            have hb : synOk s = false := by
              unfold synOk
              rw [HATJ.out.bad hjn (.inl (by rw [HOK.out]; rfl))]; rfl
            have HG : Hid (∀ w', Below w.heap.size w w' → GivesLns s w (.returned (.tuple #[.slice none 0 0, .int .i64 8])) w') := Lib.hid (fun w' hb2 => gives_none (out_syntax hbig hb) hb2)
            clear hb
            go_wp2_with fail
            refine (HCUT.out.trim _).mono ?_
            rintro e1 w2 ⟨rfl, rfl⟩
            go_wp2_with fail
            refine (HCUT.out.pref _).mono ?_
            rintro e1 w2 ⟨rfl, rfl⟩
            go_wp2_with fail
            all_goals go_ret2
            all_goals exact HG.out _ (HB1.out.trans (HBEL.out.mono HB1.out.size))
          | true =>
            by_cases hpar : sp % 2 = 0
            · have q1 : ((sp : Int) != 2 * (D : Int)) = false := by
                have := HDD.out
                rw [bne_eq_false_iff_eq]; omega
              have q2 : ((sp : Int) == 2 * (D : Int)) = true := by
                have := HDD.out
                rw [beq_iff_eq]; omega
              by_cases hd : d < D
              · have hb : synOk s = false := by
                  unfold synOk
                  rw [HATJ.out.bad hjn (.inr (by rw [HLN.out]; exact hd))]; rfl
                have HG : Hid (∀ w', Below w.heap.size w w' → GivesLns s w (.returned (.tuple #[.slice none 0 0, .int .i64 8])) w') := Lib.hid (fun w' hb2 => gives_none (out_syntax hbig hb) hb2)
                have q3 : (d : Int) < D := by omega
                clear hb hpar
                go_wp2_with fail
                refine (HCUT.out.trim _).mono ?_
                rintro e1 w2 ⟨rfl, rfl⟩
                go_wp2_with fail
                refine (HCUT.out.pref _).mono ?_
                rintro e1 w2 ⟨rfl, rfl⟩
                go_wp2_with fail
                all_goals go_ret2
                all_goals exact HG.out _ (HB1.out.trans (HBEL.out.mono HB1.out.size))
              · have q3 : ¬ (d : Int) < D := by omega
                have hnext : LnAt (linesL s.data.toList).1 (j + 1) (D + 1) := by
                  have := HATJ.out.next hjn (by rw [HOK.out, decide_eq_true hpar]; rfl) (by rw [HLN.out]; show D ≤ d; omega)
                  rw [HLN.out] at this
                  exact this
                have hpre : preLn s (j + 1) = preLn s j ++ [⟨D, X⟩] := by rw [preLn_next hjn, HLN.out]
                have hnews : ∀ q u, (Ln.cells ⟨D, X⟩)[q]? = some u → (wr.alloc (.cells #[.int .i64 D, .string X] 28)).cell? ((⟨wr.heap.size, 0, none⟩ : Addr).add q) = some u := ln_news wr ⟨D, X⟩ 28
                have hsz : w1.heap.size ≤ wr.heap.size := HBEL.out.size
                have HNX := Lib.hid hnext
                have HPR := Lib.hid hpre
                have HNEWS := Lib.hid hnews
                clear hpar hnext hpre hnews
                go_wp2_with fail
                refine (HCUT.out.trim _).mono ?_
                rintro e1 w2 ⟨rfl, hw⟩
                rw [hw]
                clear hw w2
                go_wp2_with fail
                refine (HCUT.out.pref _).mono ?_
                rintro e1 w2 ⟨rfl, hw⟩
                rw [hw]
                clear hw w2
                go_wp2_with (at_builtin; refine wpList_append_own _ rfl _ _ 22 rfl w1.heap.size 28 i0 _ 2 24 Tryd.underlying22 hi hz0 hz1 hz2 rfl (by omega) _ _ _ rfl (HOWN.out.alloc _) ⟨wr.heap.size, 0, none⟩ 1 1 (Ln.cells ⟨D, X⟩) rfl rfl HNEWS.out (ln_one ⟨D, X⟩) (by unfold maxLen; omega) (by omega) (by simp; omega) ?_)
                intro v' w4 hown4 hgrow4 _
                have hbel4 : Below w1.heap.size w1 w4 := (HBEL.out.alloc hsz _).grown hgrow4 (by simp; omega) (fun k hk => (HOWN.out.lt k hk).1)
                have HBEL4 := Lib.hid hbel4
                have HOWN4 := Lib.hid hown4
                clear hown4 hgrow4 hbel4
                go_wp2_with fail
                go_roundw
                case measure => simp [intOf]; omega
                case rel => exact ⟨j + 1, D + 1, by go_num, by go_num, Lib.hid ⟨HNX.out, by omega, by rw [HPR.out, lnFlat_snoc]; exact HOWN4.out, HBEL4.out⟩⟩
            · have q1 : ((sp : Int) != 2 * (D : Int)) = true := by
                have := HDD.out
                rw [bne_iff_ne]; omega
              have q2 : ((sp : Int) == 2 * (D : Int)) = false := by
                have := HDD.out
                rw [beq_eq_false_iff_ne]; omega
              have hb : synOk s = false := by
                unfold synOk
                rw [HATJ.out.bad hjn (.inl (by rw [HOK.out, decide_eq_false hpar]; rfl))]; rfl
              have HG : Hid (∀ w', Below w.heap.size w w' → GivesLns s w (.returned (.tuple #[.slice none 0 0, .int .i64 8])) w') := Lib.hid (fun w' hb2 => gives_none (out_syntax hbig hb) hb2)
              clear hb hpar
              go_wp2_with fail
              refine (HCUT.out.trim _).mono ?_
              rintro e1 w2 ⟨rfl, rfl⟩
              go_wp2_with fail
              refine (HCUT.out.pref _).mono ?_
              rintro e1 w2 ⟨rfl, rfl⟩
              go_wp2_with fail
              all_goals go_ret2
              all_goals exact HG.out _ (HB1.out.trans (HBEL.out.mono HB1.out.size))
        · have p2 : ¬ (j : Int) < nl := by omega
          have hje : j = nLn s := by rw [← HN.out]; omega
          have hsyn : synOk s = true := by
            unfold synOk
            rw [HR.out.at_.end_ hje, HFIN.out]
            rfl
          subst hje
          have hown := HR.out.own
          rw [preLn_all] at hown
          obtain ⟨A2, c2, rfl, hA2⟩ := own_slice hown
          have HQ0 : Hid (FRow s w1 (.slice A2 (nLn s) c2) 0 wr) := Lib.hid ⟨Nat.zero_le _, rfl, hown, HR.out.bel⟩
          have HA2 := Lib.hid hA2
          have HF := Lib.hid hsyn
          rw [← HN.out] at HQ0 HA2 p2 ⊢
          clear HR hown hA2 hsyn
          go_wp2_with fail
          go_loopw [74] (fun iv wx => ∃ k : Nat, iv = .int .i64 k ∧ Hid (FRow s w1 (.slice A2 nl c2) k wx)) (fun iv _ => nl - (intOf iv).toNat)
          case atStart => exact ⟨0, rfl, HQ0⟩
          case round =>
            obtain ⟨k, rfl, HQ⟩ := hrel
            have hkl : k ≤ nl := by have := HQ.out.le; rw [HN.out]; exact this
            by_cases hk : k < nl
            · obtain ⟨g, rfl, -, -⟩ := HA2.out (by omega)
              have hk2 : k < (lnsOf s).length := by rw [lnsOf_len, ← HN.out]; exact hk
              obtain ⟨x, hx⟩ : ∃ x, x = (lnsOf s)[k] := ⟨_, rfl⟩
              have hcell : ∀ q u, q < 2 → x.cells[q]? = some u → wr.cell? ⟨g, k * 2 + q, none⟩ = some u := by
                intro q u hq hu
                have hown := HQ.out.own
                rw [← HN.out] at hown
                have h1 := hown.cellAt (k * 2 + q) (by omega)
                have h2 := ln_flat (lnsOf s) k hk2 q hq
                rw [← hx, hu] at h2
                exact h1.trans h2
              have ht := lns_text s x (by rw [hx]; exact List.getElem_mem hk2)
              have HCK := Lib.hid (fun W => textError_any x.text W (by omega))
              have p3 : (k : Int) < nl := by omega
              have e0 := hcell 0 _ (by omega) rfl
              have e1 := hcell 1 _ (by omega) rfl
              simp only [Nat.add_zero] at e0
              have HX := Lib.hid hx
              clear hcell hx
              by_cases h0 : checkV x.text = 0
              · have hb := firstBad_at hk2 HQ.out.bad (by rw [← HX.out]; exact h0)
                have HBD := Lib.hid hb
                rw [h0] at HCK
                have HBL := Lib.hid HQ.out.bel
                have HOW := Lib.hid HQ.out.own
                have hsz := HBL.out.size
                clear hb h0
                go_wp2_with fail
                refine (HCK.out _).mono ?_
                rintro e5 w5 ⟨rfl, rfl⟩
                go_wp2_with fail
                go_roundw
                case rel => exact ⟨k + 1, by go_num, Lib.hid ⟨by rw [← HN.out]; omega, HBD.out, HOW.out.alloc _, HBL.out.alloc hsz _⟩⟩
                case measure => simp [intOf]; omega
              · have hb := firstBad_hit hk2 HQ.out.bad (by rw [← HX.out]; exact h0)
                have HG : Hid (∀ w', Below w.heap.size w w' → GivesLns s w (.returned (.tuple #[.slice none 0 0, .int .i64 (checkV x.text)])) w') := Lib.hid (fun w' hb2 => gives_none (by rw [HX.out, ← hb]; exact out_text hbig HF.out (by rw [hb, ← HX.out]; exact h0)) hb2)
                have q0 : (checkV x.text == 0) = false := by simpa using h0
                have HBL : Hid (Below w.heap.size w wr) := Lib.hid (HB1.out.trans (HQ.out.bel.mono HB1.out.size))
                have hsz := HBL.out.size
                clear hb h0
                go_wp2_with fail
                refine (HCK.out _).mono ?_
                rintro e5 w5 ⟨rfl, rfl⟩
                go_wp2_with fail
                go_ret2
                exact HG.out _ (HBL.out.alloc hsz _)
            · have p3 : ¬ (k : Int) < nl := by omega
              have hfb : firstBad (lnsOf s) = 0 := firstBad_end (by rw [lnsOf_len, ← HN.out]; omega) HQ.out.bad
              by_cases h2 : 2000 < nl
              · have HG : Hid (∀ w', Below w.heap.size w w' → GivesLns s w (.returned (.tuple #[.slice none 0 0, .int .i64 4])) w') := Lib.hid (fun w' hb2 => gives_none (out_many hbig HF.out hfb (by rw [lnsOf_len, ← HN.out]; exact h2)) hb2)
                have p4 : (2000 : Int) < nl := by omega
                have HB := Lib.hid HQ.out.bel
                clear hfb
                go_wp2_with fail
                go_ret2
                exact HG.out _ (HB1.out.trans (HB.out.mono HB1.out.size))
              · have ho := out_ok hbig HF.out hfb (by rw [lnsOf_len, ← HN.out]; exact h2)
                have HG : Hid (GivesLns s w (.returned (.tuple #[.slice A2 nl c2, .int .i64 0])) wr) := Lib.hid ⟨_, by rw [ho.1], by rw [ho.2, lnsOf_len]; exact own_base HQ.out.own HB1.out.size, HB1.out.trans (HQ.out.bel.mono HB1.out.size)⟩
                have p4 : ¬ (2000 : Int) < nl := by omega
                clear hfb ho
                go_wp2_with fail
                go_ret2
                exact HG.out
    · have HG : Hid (∀ w', Below w.heap.size w w' → GivesLns s w (.returned (.tuple #[.slice none 0 0, .int .i64 8])) w') := Lib.hid (fun w' hb => gives_none (out_syntax hbig hsyn) hb)
      have HB := Lib.hid hb1
      clear hsyn hb1
      go_wp2_with fail
      go_ret2
      exact HG.out _ HB.out
end Go.Proofs.YticdapkljbillaaDoor
